/-
  The document's begin.
-/
import Derived.Test.YtfoblbpbhldngaaDoorOp1
import Derived.Test.YtfoblbpbhldngaaDoorApf
import Derived.BigCall
namespace Go.Proofs.YtfoblbpbhldngaaDoor
open Flo Go.RowKit Tr
theorem infoF : (Tryd.prog.info? 71).map (fun i => (i.zero, i.size, i.bytes)) = some (some (.agg #[.int .i64 0, .int .i64 0, .slice none 0 0]), 3, 40) := by kernel_rfl
theorem info_f : ∃ i, Tryd.prog.info? 71 = some i ∧ i.zero = some (.agg #[.int .i64 0, .int .i64 0, .slice none 0 0]) ∧ i.size = 3 ∧ i.bytes = 40 := by
  obtain ⟨i, hi, h⟩ := Option.map_eq_some_iff.1 infoF
  simp only [Prod.mk.injEq] at h
  exact ⟨i, hi, h.1, h.2.1, h.2.2⟩
/-- what stands after a step of the reading -/
structure PS (X : Nat) (w0 : World) (sv0 : Value) (w : World) (g : Nat) (l : List UInt8) (p : Nat) (sv : Value) (fs : List Tr) (ss : List Value) : Prop where
  z : Pz w g l p sv
  q : Gq X (g + 1) w sv fs ss
  ch : Ch w0 w g sv0
  nb : ∀ b, sv.ownBlock = some b → sv0.ownBlock = some b ∨ w0.heap.size ≤ b
  le : p ≤ l.length
  few : fs.length ≤ p
def BE (X g : Nat) (l : List UInt8) (p : Nat) (fs : List Tr) (sv : Value) (w : World) (e : Ending) (w' : World) : Prop :=
  ∃ (sv' : Value) (ss' : List Value) (fs' : List Tr) (p' : Nat) (v : Value) (wh ok : Bool), e = .returned (.tuple #[v, .bool wh, .bool ok]) ∧ PS X w sv w' g l p' sv' fs' ss' ∧
    ((ok = false ∧ wh = wh ∧ Ps.kont l fs.reverse (Ps.pa l p) = (none, p')) ∨ (ok = true ∧ wh = true ∧ fs' = fs ∧ p < p' ∧ ∃ t, v = .agg #[.int .i64 t.k, .int .i64 t.n, .slice none 0 0] ∧ t.ks = [] ∧ fit t.k t.n ∧ Ps.kont l fs.reverse (Ps.pa l p) = Ps.kont l fs.reverse (some t, p')) ∨ (ok = true ∧ wh = false ∧ p < p' ∧ Ps.kont l fs.reverse (Ps.pa l p) = Ps.kont l fs'.reverse (Ps.pa l p'))) ∧ ∃ k n a c, v = .agg #[.int .i64 k, .int .i64 n, .slice a 0 c]
/-- an order that isn't ended, put behind the others -/
theorem push_fin {w W w4 : World} {XX g p1 R : Nat} {l : List UInt8} {sv v' : Value} {fs : List Tr} {ss : List Value} {k n : Int} {o : Obj} (hq : Gq XX (g + 1) w sv fs ss) (hR : w.heap.size = R) (hgR : g < R) (hz : Pz W g l p1 sv) (G : w.grownBy W (some g)) (X : Bo W R 0 0 (.slice none 0 0)) (hf : fit k n) (hp1 : p1 ≤ l.length) (hfs : fs.length + 1 ≤ p1)
    (q1 : w4.ownsRow (g + 1) 71 3 v' (fs.length + 1) (cso fs ss ++ [.int .i64 k, .int .i64 n, .slice none 0 0])) (q2 : (W.alloc o).grownBy w4 sv.ownBlock) (q3 : ∀ b, v'.ownBlock = some b → sv.ownBlock = some b ∨ W.heap.size + 1 ≤ b) :
    Hid (Pz w4 g l p1 sv) ∧ Hid (Bo w4 R 0 0 (.slice none 0 0)) ∧ Hid (PS XX w sv (st3 (w4.setCell ⟨g, 2, none⟩ v') R 0 0 (.slice none 0 0)) g l p1 v' (fs ++ [⟨k, n, []⟩]) (ss ++ [.slice none 0 0])) := by
  have hrow : ∀ b, sv.ownBlock = some b → g + 1 ≤ b ∧ b < R := fun b hb => by rw [← hR]; exact hq.own.lt b hb
  have hRW : R < W.heap.size := X.lt
  have hk4 : ∀ b, b < W.heap.size → some b ≠ sv.ownBlock → w4.heap[b]? = W.heap[b]? := fun b hb hn => by
    rw [q2.block b (by simp; omega) hn, Below.heap_alloc _ _ _ hb]
  have z4 : Pz w4 g l p1 sv := ⟨by rw [hk4 g (by omega) (fun e => by have := hrow g e.symm; omega)]; exact hz.b⟩
  have x4 : Bo w4 R 0 0 (.slice none 0 0) := ⟨by rw [hk4 R hRW (fun e => by have := hrow R e.symm; omega)]; exact X.b⟩
  have hs4 : W.heap.size ≤ w4.heap.size := by have := q2.size; simp at this; omega
  have hv' : ∀ b, v'.ownBlock = some b → g + 1 ≤ b ∧ b ≠ R := fun b hb => by
    rcases q3 b hb with h | h
    · have := hrow b h; omega
    · omega
  have hch : Ch w (st3 (w4.setCell ⟨g, 2, none⟩ v') R 0 0 (.slice none 0 0)) g sv := by
    refine ⟨q2.os.trans G.os, q2.tape.trans G.tape, q2.output.trans G.output, by rw [st3_size, sc_size]; have := G.size; omega, fun b hb h1 h2 => ?_⟩
    have := G.size
    rw [st3_blk _ _ _ _ _ (by omega), sc_blk _ _ _ h1, hk4 b (by omega) h2]
    exact G.block b hb (fun e => h1 (Option.some.inj e))
  refine ⟨z4, x4, ⟨?_⟩, ?_, hch, fun b hb => ?_, hp1, by simp; omega⟩
  · rw [st3_blk _ _ _ _ _ (by omega), Joins.block_setCell z4.b]; rfl
  · refine hq.push (g := g) hf ?_ hch (by omega) (fun b hb => ?_)
    · have h1 := q1.kept (Lib.Hx.grownBy_set (Lib.Hx.grownBy_refl w4 (some g)) ⟨g, 2, none⟩ rfl v') (by
        cases hv : v'.ownBlock with
        | none => exact .inl rfl
        | some b => exact .inr (fun e => by have := hv' b hv; have := Option.some.inj e; omega))
      exact h1.kept (st3_own _ _ _ _ _) (by
        cases hv : v'.ownBlock with
        | none => exact .inl rfl
        | some b => exact .inr (fun e => by have := hv' b hv; have := Option.some.inj e; omega))
    · rcases q3 b hb with h | h
      · exact .inl h
      · exact .inr (by have := G.size; omega)
  · rcases q3 b hb with h | h
    · exact .inl h
    · exact .inr (by have := G.size; omega)
theorem add_pl (b i : Nat) : (⟨b, 0, none⟩ : Addr).add i = ⟨b, i, none⟩ := by
  unfold Addr.add
  by_cases h : i = 0
  · subst h; simp
  · simp [h]
theorem new_cell (W : World) (c : Array Value) (t : TypeId) (j : Nat) : (W.alloc (.cells c t)).cell? ⟨W.heap.size, j, none⟩ = c[j]? := Joins.cell_of_block (heap_alloc_new W (.cells c t)) j
set_option maxHeartbeats 4000000 in
set_option maxRecDepth 100000 in
theorem begin_c (X g p : Nat) (l : List UInt8) (sv : Value) (fs : List Tr) (ss : List Value) (w : World) (hz : Pz w g l p sv) (hq : Gq X (g + 1) w sv fs ss) (hl : l.length ≤ 65536) (hp : p ≤ l.length) (hfs : fs.length ≤ p) :
    Calls Tryd.prog 23 #[.pointer (some ⟨g, 0, none⟩)] w (BE X g l p fs sv w) := by
  have hlI : Hid ((Bt l).size = l.length) := Bt_size l
  have h64 : (Bt l).size ≤ 65536 := by rw [hlI.out]; exact hl
  obtain ⟨i0, hi0, iz0, iz1, iz2⟩ := info_f
  obtain ⟨sa, sl, sc, rfl⟩ : ∃ a l c, sv = .slice a l c := by
    rcases hq.own.2 with ⟨e, _⟩ | ⟨_, _, _, e, _⟩
    · exact ⟨_, _, _, e⟩
    · exact ⟨_, _, _, e⟩
  obtain ⟨wa, ewa⟩ : ∃ wa, Hid (w.alloc (.cells #[.int .i64 0, .int .i64 0, .slice none 0 0] 25) = wa) := ⟨_, (rfl : _ = _)⟩
  have Ba : Below w.heap.size w wa := by rw [← ewa.out]; exact (Below.refl _ _).alloc (Nat.le_refl _) _
  have hgw : g < w.heap.size := blk_lt hz.b
  have Za : Hid (Pz wa g l p (.slice sa sl sc)) := ⟨(Ba.block g hgw).trans hz.b⟩
  have Ga : Hid (w.grownBy wa (some g)) := below_gb Ba _
  have Xa : Hid (Bo wa w.heap.size 0 0 (.slice none 0 0)) := by show Bo _ _ _ _ _; rw [← ewa.out]; exact Bo.new _ _ _ _
  have hqH : Hid (Gq X (g + 1) w (.slice sa sl sc) fs ss) := hq
  obtain ⟨R, hR⟩ : ∃ R, Hid (w.heap.size = R) := ⟨_, (rfl : _ = _)⟩
  rw [hR.out] at Xa hgw
  clear hz hq Ba
  -- where the list of the orders that aren't ended stays
  have fin : Hid (∀ (W : World) (p' : Nat), Pz W g l p' (.slice sa sl sc) → w.grownBy W (some g) → p' ≤ l.length → p ≤ p' → ∀ k n s, PS X w (.slice sa sl sc) (st3 W R k n s) g l p' (.slice sa sl sc) fs ss) := fun W p' hz hg h1 h2 k n s => by
    have hG : w.grownBy (st3 W R k n s) (some g) := st3_gb (by rw [hR.out]; exact Nat.le_refl _) hg
    exact ⟨⟨by rw [st3_blk _ _ _ _ _ (by omega)]; exact hz.b⟩, hqH.out.gb hG (by omega), Ch.gb hG, fun b hb => .inl hb, h1, by omega⟩
  go_enter Tryd.func23, Tryd.ntmps23
  go_upto_region 1 with fail
  rw [ewa.out, hR.out]
  have d0 : ∀ D, (wa.drewN D).cell? ⟨g, 0, none⟩ = some (.string (Bt l)) := fun D => (Za.out.drew D).c0
  have d1 : ∀ D, (wa.drewN D).cell? ⟨g, 1, none⟩ = some (.int .i64 (p : Int)) := fun D => (Za.out.drew D).c1
  have d3 : ∀ D, (wa.drewN D).frozen? ⟨g, 1, none⟩ = false := fun D => (Za.out.drew D).fz 1
  have c0 := Za.out.c0
  have c1 := Za.out.c1
  cases hb : l[p]? with
  | none =>
    have hpl : p = l.length := by have := List.getElem?_eq_none_iff.1 hb; omega
    have hqe : (p : Int) = ((Bt l).size : Int) := by rw [hlI.out, hpl]
    have hlq3 : ((p : Int) == ((Bt l).size : Int)) = true := beq_iff_eq.2 hqe
    have hlq4 : decide ((p : Int) = ((Bt l).size : Int)) = true := decide_eq_true hqe
    have hpa := Ps.pa_none hb
    have hfin : Hid (∀ D, BE X g l p fs (.slice sa sl sc) w (.returned (.tuple #[zor, .bool false, .bool false])) (st3 (wa.drewN D) R 0 0 (.slice none 0 0))) := fun D =>
      ⟨_, ss, fs, p, zor, false, false, rfl, fin.out _ p (Za.out.drew D) (gb_dr Ga.out D) hp (Nat.le_refl _) _ _ _, .inl ⟨rfl, rfl, by rw [hpa, Ps.kont_none]⟩, _, _, _, _, rfl⟩
    clear hb hpl hqe hpa
    go_quiet (fail)
    have x0 : ∀ D, (wa.drewN D).cell? ⟨R, 0, none⟩ = some (.int .i64 0) := fun D => (Xa.out.dr D).c0
    have x1 : ∀ D, (wa.drewN D).cell? ⟨R, 1, none⟩ = some (.int .i64 0) := fun D => (Xa.out.dr D).c1
    have x2 : ∀ D, (wa.drewN D).cell? ⟨R, 2, none⟩ = some (.slice none 0 0) := fun D => (Xa.out.dr D).c2
    have xf : ∀ D i, (wa.drewN D).frozen? ⟨R, i, none⟩ = false := fun D i => (Xa.out.dr D).fz i
    go_wp2_with fail
    refine bodyPost_ret (v := .tuple #[zor, .bool false, .bool false]) (by simp [results, Tryd.results23, go_sem, x0, x1, x2, zor]) rfl ?_
    exact hfin.out _
  | some b =>
    have hpl : p < l.length := (List.getElem?_eq_some_iff.1 hb).1
    have hlq : p < (Bt l).size := by rw [hlI.out]; exact hpl
    have hlq2 : (p : Int) < ((Bt l).size : Int) := by omega
    have hlq3 : ((p : Int) == ((Bt l).size : Int)) = false := beq_eq_false_iff_ne.2 (by omega)
    have hlq4 : decide ((p : Int) = ((Bt l).size : Int)) = false := decide_eq_false (by omega)
    have hbx : (Bt l)[p].toNat = b.toNat := by have := bt_get l p hlq; rw [this] at hb; rw [Option.some.inj hb]
    go_quiet (fail)
    go_wp2_with fail
    go_quiet (fail)
    have hp1 : p + 1 ≤ l.length := hpl
    have hz1 : Hid (∀ D, Pz ((wa.drewN D).setCell ⟨g, 1, none⟩ (.int .i64 ((p : Int) + 1))) g l (p + 1) (.slice sa sl sc)) := fun D => (Za.out.drew D).set (p + 1)
    have hg1 : Hid (∀ D, w.grownBy ((wa.drewN D).setCell ⟨g, 1, none⟩ (.int .i64 ((p : Int) + 1))) (some g)) := fun D => Lib.Hx.grownBy_set (gb_dr Ga.out D) ⟨g, 1, none⟩ rfl _
    have hx1 : Hid (∀ D, Bo ((wa.drewN D).setCell ⟨g, 1, none⟩ (.int .i64 ((p : Int) + 1))) R 0 0 (.slice none 0 0)) := fun D => ⟨by rw [sc_blk _ _ _ (by omega)]; exact Xa.out.b⟩
    by_cases hby : b = 100
    · have hb1 : ((b.toNat : Int) == 100) = true := by rw [hby]; rfl
      have hb2 : ((b.toNat : Int) == 102) = false := by rw [hby]; rfl
      have hpa := Ps.pa_leaf hb (Or.inl hby)
      clear hb
      go_wp2_with fail
      go_quiet (fail)
      go_wp2_with fail
      refine (rnumber_c g (p + 1) l _ _ (hz1.out _) hl hp1).mono ?_
      rintro e w3 ⟨rfl, z3, g3⟩
      obtain ⟨N, hN⟩ : ∃ N : Nat, Hid (Ps.nv (l.drop (p + 1)) = N) := ⟨_, (rfl : _ = _)⟩
      have G3 : w.grownBy w3 (some g) := gb_tr (hg1.out _) g3
      have X3 : Hid (Bo w3 R 0 0 (.slice none 0 0)) := (hx1.out _).gb g3 (by omega)
      have hdl : p + 1 + Ps.dc (l.drop (p + 1)) ≤ l.length := by have := Ps.dc_le (l.drop (p + 1)); rw [List.length_drop] at this; omega
      have hfin : Hid (BE X g l p fs (.slice sa sl sc) w (.returned (.tuple #[.agg #[.int .i64 1, .int .i64 (N : Int), .slice none 0 0], .bool true, .bool (decide (0 < N))])) (st3 w3 R 1 (N : Int) (.slice none 0 0)) ∧ N ≤ 9223372036854775807) := by
        by_cases hdc : Ps.dc (l.drop (p + 1)) = 0
        · have hN0 : N = 0 := by rw [← hN.out]; unfold Ps.nv; rw [hdc]; rfl
          rw [if_pos hdc] at hpa
          rw [hdc] at z3
          refine ⟨⟨_, ss, fs, p + 1, _, true, false, by rw [hN0]; rfl, fin.out _ (p + 1) z3 G3 (by omega) (by omega) _ _ _, .inl ⟨rfl, rfl, by rw [hpa, Ps.kont_none]⟩, _, _, _, _, rfl⟩, by omega⟩
        · obtain ⟨_, hn1, hn2⟩ := Ps.dc_take hdc
          rw [hN.out] at hn1 hn2
          rw [if_neg hdc] at hpa
          refine ⟨⟨_, ss, fs, p + 1 + Ps.dc (l.drop (p + 1)), _, true, true, by rw [decide_eq_true (by omega)], fin.out _ _ z3 G3 hdl (by omega) _ _ _, .inr (.inl ⟨rfl, rfl, rfl, by omega, ⟨1, (N : Int), []⟩, rfl, rfl, (show fit 1 (N : Int) from ⟨by decide, by omega⟩), ?_⟩), _, _, _, _, rfl⟩, by omega⟩
          rw [hpa, hN.out, hby]
          rw [show p + 1 + Ps.dc (l.drop (p + 1)) = p + (1 + Ps.dc (l.drop (p + 1))) by omega]
          rfl
      rw [hN.out]
      clear z3 g3 hdl hpa G3
      have hN63 := hfin.out.2
      have x0 := X3.out.c0
      have x1 := X3.out.c1
      have x2 := X3.out.c2
      have xf := X3.out.fz
      have hgt : decide ((N : Int) > 0) = decide (0 < N) := by by_cases h : 0 < N <;> simp [h]
      go_wp2_with fail
      refine bodyPost_ret (v := .tuple #[.agg #[.int .i64 1, .int .i64 (N : Int), .slice none 0 0], .bool true, .bool (decide (0 < N))]) (by simp [results, Tryd.results23, go_sem, x0, x1, x2]) rfl ?_
      exact hfin.out.1
    by_cases hby2 : b = 102
    · have hby := hby2
      clear hby2
      have hb1 : ((b.toNat : Int) == 100) = false := by rw [hby]; rfl
      have hb2 : ((b.toNat : Int) == 102) = true := by rw [hby]; rfl
      have hpa := Ps.pa_leaf hb (Or.inr hby)
      clear hb
      go_wp2_with fail
      go_quiet (fail)
      go_wp2_with fail
      refine (rnumber_c g (p + 1) l _ _ (hz1.out _) hl hp1).mono ?_
      rintro e w3 ⟨rfl, z3, g3⟩
      obtain ⟨N, hN⟩ : ∃ N : Nat, Hid (Ps.nv (l.drop (p + 1)) = N) := ⟨_, (rfl : _ = _)⟩
      have G3 : w.grownBy w3 (some g) := gb_tr (hg1.out _) g3
      have X3 : Hid (Bo w3 R 0 0 (.slice none 0 0)) := (hx1.out _).gb g3 (by omega)
      have hdl : p + 1 + Ps.dc (l.drop (p + 1)) ≤ l.length := by have := Ps.dc_le (l.drop (p + 1)); rw [List.length_drop] at this; omega
      have hfin : Hid (BE X g l p fs (.slice sa sl sc) w (.returned (.tuple #[.agg #[.int .i64 2, .int .i64 (N : Int), .slice none 0 0], .bool true, .bool (decide (0 < N))])) (st3 w3 R 2 (N : Int) (.slice none 0 0)) ∧ N ≤ 9223372036854775807) := by
        by_cases hdc : Ps.dc (l.drop (p + 1)) = 0
        · have hN0 : N = 0 := by rw [← hN.out]; unfold Ps.nv; rw [hdc]; rfl
          rw [if_pos hdc] at hpa
          rw [hdc] at z3
          refine ⟨⟨_, ss, fs, p + 1, _, true, false, by rw [hN0]; rfl, fin.out _ (p + 1) z3 G3 (by omega) (by omega) _ _ _, .inl ⟨rfl, rfl, by rw [hpa, Ps.kont_none]⟩, _, _, _, _, rfl⟩, by omega⟩
        · obtain ⟨_, hn1, hn2⟩ := Ps.dc_take hdc
          rw [hN.out] at hn1 hn2
          rw [if_neg hdc] at hpa
          refine ⟨⟨_, ss, fs, p + 1 + Ps.dc (l.drop (p + 1)), _, true, true, by rw [decide_eq_true (by omega)], fin.out _ _ z3 G3 hdl (by omega) _ _ _, .inr (.inl ⟨rfl, rfl, rfl, by omega, ⟨2, (N : Int), []⟩, rfl, rfl, (show fit 2 (N : Int) from ⟨by decide, by omega⟩), ?_⟩), _, _, _, _, rfl⟩, by omega⟩
          rw [hpa, hN.out, hby]
          rw [show p + 1 + Ps.dc (l.drop (p + 1)) = p + (1 + Ps.dc (l.drop (p + 1))) by omega]
          rfl
      rw [hN.out]
      clear z3 g3 hdl hpa G3
      have hN63 := hfin.out.2
      have x0 := X3.out.c0
      have x1 := X3.out.c1
      have x2 := X3.out.c2
      have xf := X3.out.fz
      have hgt : decide ((N : Int) > 0) = decide (0 < N) := by by_cases h : 0 < N <;> simp [h]
      go_wp2_with fail
      refine bodyPost_ret (v := .tuple #[.agg #[.int .i64 2, .int .i64 (N : Int), .slice none 0 0], .bool true, .bool (decide (0 < N))]) (by simp [results, Tryd.results23, go_sem, x0, x1, x2]) rfl ?_
      exact hfin.out.1
    have hb1 : ((b.toNat : Int) == 100) = false := beq_eq_false_iff_ne.2 (fun e => hby (UInt8.toNat_inj.1 (Int.ofNat.inj e)))
    have hb2 : ((b.toNat : Int) == 102) = false := beq_eq_false_iff_ne.2 (fun e => hby2 (UInt8.toNat_inj.1 (Int.ofNat.inj e)))
    by_cases hby3 : b = 40
    · have hb3 : ((b.toNat : Int) == 40) = true := by rw [hby3]; rfl
      have c2 : ∀ D, ((wa.drewN D).setCell ⟨g, 1, none⟩ (.int .i64 ((p : Int) + 1))).cell? ⟨g, 2, none⟩ = some (.slice sa sl sc) := fun D => (hz1.out D).c2
      have hown1 : Hid (∀ D, ((wa.drewN D).setCell ⟨g, 1, none⟩ (.int .i64 ((p : Int) + 1))).ownsRow (g + 1) 71 3 (.slice sa sl sc) fs.length (cso fs ss)) := fun D => (hqH.out.gb (hg1.out D) (by omega)).own
      have hkt := Ps.k_times (l := l) (p := p) fs.reverse (by rw [hb, hby3])
      have hktH : Hid (Ps.kont l fs.reverse (Ps.pa l p) = Ps.kont l (fs ++ [(⟨3, 0, []⟩ : Tr)]).reverse (Ps.pa l (p + 1))) := by show _ = _; rw [hkt]; simp
      clear hb hkt
      go_upto_region 14 with fail
      have hwaR : R < wa.heap.size := Xa.out.lt
      have hnc : Hid (∀ D j, (((wa.drewN D).setCell ⟨g, 1, none⟩ (.int .i64 ((p : Int) + 1))).alloc (.cells #[.int .i64 3, .int .i64 0, .slice none 0 0] 71)).cell? ⟨wa.heap.size, j, none⟩ = #[.int .i64 3, .int .i64 0, .slice none 0 0][j]?) := fun D j => by
        have := new_cell ((wa.drewN D).setCell ⟨g, 1, none⟩ (.int .i64 ((p : Int) + 1))) #[.int .i64 3, .int .i64 0, .slice none 0 0] 71 j
        rw [sc_size] at this; exact this
      go_wp2_with (at_builtin; refine wpList_append_fr _ rfl _ _ 50 rfl (g + 1) 71 i0 _ 3 40 Tryd.underlying50 hi0 iz0 iz1 iz2 rfl (by decide) _ fs.length _ rfl ((hown1.out _).alloc _) ⟨wa.heap.size, 0, none⟩ 1 1 [.int .i64 3, .int .i64 0, .slice none 0 0] rfl rfl (by intro j u' hj; rw [add_pl]; exact (hnc.out _ j).trans (by simpa using hj)) (by intro u' hu'; simp at hu'; rcases hu' with h | h | h <;> subst h <;> rfl) (by unfold maxLen; omega) (by omega) (by simp; omega) ?_)
      intro v' w4 q1 q2 q3
      obtain ⟨va, vl, vc, rfl⟩ : ∃ a l c, v' = .slice a l c := by rcases q1.2 with ⟨e, _⟩ | ⟨_, _, _, e, _⟩ <;> exact ⟨_, _, _, e⟩
      obtain ⟨z4, x4, ps4⟩ := push_fin (k := 3) (n := 0) hqH.out hR.out hgw (hz1.out _) (hg1.out _) (hx1.out _) ⟨by decide, by decide⟩ hp1 (by omega) q1 q2 (fun b hb => by have := q3 b hb; simpa using this)
      have hfin : Hid (BE X g l p fs (.slice sa sl sc) w (.returned (.tuple #[zor, .bool false, .bool true])) (st3 (w4.setCell ⟨g, 2, none⟩ (.slice va vl vc)) R 0 0 (.slice none 0 0))) :=
        ⟨_, _, _, _, zor, false, true, rfl, ps4.out, .inr (.inr ⟨rfl, rfl, by omega, hktH.out⟩), _, _, _, _, rfl⟩
      clear q1 q2 q3 ps4
      have y2 := z4.out.c2
      have yf := z4.out.fz
      obtain ⟨w6, e6⟩ : ∃ w6, Hid (w4.setCell ⟨g, 2, none⟩ (.slice va vl vc) = w6) := ⟨_, (rfl : _ = _)⟩
      have X6 : Bo w6 R 0 0 (.slice none 0 0) := ⟨by rw [← e6.out, sc_blk _ _ _ (by omega)]; exact x4.out.b⟩
      rw [e6.out] at hfin
      go_upto_region 15 with fail
      rw [e6.out]
      have x0 := X6.c0
      have x1 := X6.c1
      have x2 := X6.c2
      have xf := X6.fz
      clear y2 yf X6
      go_wp2_with fail
      refine bodyPost_ret (v := .tuple #[zor, .bool false, .bool true]) (by simp [results, Tryd.results23, go_sem, x0, x1, x2, zor]) rfl ?_
      exact hfin.out
    have hb3 : ((b.toNat : Int) == 40) = false := beq_eq_false_iff_ne.2 (fun e => hby3 (UInt8.toNat_inj.1 (Int.ofNat.inj e)))
    by_cases hby4 : b = 98
    · have hb4 : ((b.toNat : Int) == 98) = true := by rw [hby4]; rfl
      have hbc : l[p]? = some 98 := by rw [hb, hby4]
      clear hb
      go_wp2_with fail
      refine (rnumber_c g (p + 1) l _ _ (hz1.out _) hl hp1).mono ?_
      rintro e w3 ⟨rfl, z3, g3⟩
      have hdl : p + 1 + Ps.dc (l.drop (p + 1)) ≤ l.length := by have := Ps.dc_le (l.drop (p + 1)); rw [List.length_drop] at this; omega
      obtain ⟨N, hN⟩ : ∃ N : Nat, Hid (Ps.nv (l.drop (p + 1)) = N) := ⟨_, (rfl : _ = _)⟩
      obtain ⟨c, hc⟩ : ∃ c, Hid (p + 1 + Ps.dc (l.drop (p + 1)) = c) := ⟨_, (rfl : _ = _)⟩
      rw [hc.out] at z3 hdl
      rw [hN.out]
      have Z3 : Hid (Pz w3 g l c (.slice sa sl sc)) := z3
      have G3 : Hid (w.grownBy w3 (some g)) := gb_tr (hg1.out _) g3
      have X3 : Hid (Bo w3 R 0 0 (.slice none 0 0)) := (hx1.out _).gb g3 (by omega)
      have hpc : p + 1 ≤ c := by rw [← hc.out]; omega
      clear z3 g3
      by_cases hdc : Ps.dc (l.drop (p + 1)) = 0
      · have hN0 : N = 0 := by rw [← hN.out]; unfold Ps.nv; rw [hdc]; rfl
        have hpa := Ps.pa_blue0 hbc hdc
        have hcp : c = p + 1 := by rw [← hc.out, hdc]
        have hfin : Hid (BE X g l p fs (.slice sa sl sc) w (.returned (.tuple #[zor, .bool false, .bool false])) (st3 w3 R 0 0 (.slice none 0 0))) :=
          ⟨_, ss, fs, c, zor, false, false, rfl, fin.out _ c Z3.out G3.out hdl (by omega) _ _ _, .inl ⟨rfl, rfl, by rw [hpa, Ps.kont_none, hcp]⟩, _, _, _, _, rfl⟩
        have hNz : ((N : Int) == 0) = true := by rw [hN0]; rfl
        have x0 := X3.out.c0
        have x1 := X3.out.c1
        have x2 := X3.out.c2
        have xf := X3.out.fz
        clear hN0 hpa hcp hdc
        go_wp2_with fail
        refine bodyPost_ret (v := .tuple #[zor, .bool false, .bool false]) (by simp [results, Tryd.results23, go_sem, x0, x1, x2, zor]) rfl ?_
        exact hfin.out
      · obtain ⟨_, hn1, hn2⟩ := Ps.dc_take hdc
        rw [hN.out] at hn1 hn2
        have hNz : ((N : Int) == 0) = false := beq_eq_false_iff_ne.2 (by omega)
        have hcI : Hid (Calls Tryd.prog 36 #[.pointer (some ⟨g, 0, none⟩), .string ⟨#[40]⟩] w3 fun e w' => e = .returned (.bool (decide (Ps.mt [40] (l.drop c) = 1))) ∧ Pz w' g l (c + Ps.mt [40] (l.drop c)) (.slice sa sl sc) ∧ w3.grownBy w' (some g)) := ris_c g c l [40] (.slice sa sl sc) w3 Z3.out hl hdl (by decide)
        go_wp2_with fail
        refine hcI.out.mono ?_
        rintro e w5 ⟨rfl, z5, g5⟩
        have G5 : Hid (w.grownBy w5 (some g)) := gb_tr G3.out g5
        have X5 : Hid (Bo w5 R 0 0 (.slice none 0 0)) := X3.out.gb g5 (by omega)
        clear hcI
        by_cases hM : Ps.mt [40] (l.drop c) = 1
        · rw [decide_eq_true hM]
          rw [hM] at z5
          have hkb := Ps.k_blue (l := l) (p := p) fs.reverse hbc hdc (by rw [hc.out]; omega)
          rw [hc.out, hN.out] at hkb
          have hktH : Hid (Ps.kont l fs.reverse (Ps.pa l p) = Ps.kont l (fs ++ [(⟨4, (N : Int), []⟩ : Tr)]).reverse (Ps.pa l (c + 1))) := by show _ = _; rw [hkb]; simp
          have hc1 : c + 1 ≤ l.length := by have := Ps.mt_le2 [40] (l.drop c); rw [List.length_drop] at this; omega
          have Z5 : Hid (Pz w5 g l (c + 1) (.slice sa sl sc)) := z5
          have hown1 : Hid (w5.ownsRow (g + 1) 71 3 (.slice sa sl sc) fs.length (cso fs ss)) := (hqH.out.gb G5.out (by omega)).own
          have c2 := Z5.out.c2
          have hwaR : R < w5.heap.size := X5.out.lt
          clear hkb hM hbc hdc z5 g5
          go_upto_region 21 with fail
          go_wp2_with (at_builtin; refine wpList_append_fr _ rfl _ _ 50 rfl (g + 1) 71 i0 _ 3 40 Tryd.underlying50 hi0 iz0 iz1 iz2 rfl (by decide) _ fs.length _ rfl (hown1.out.alloc _) ⟨w5.heap.size, 0, none⟩ 1 1 [.int .i64 4, .int .i64 (N : Int), .slice none 0 0] rfl rfl (by intro j u' hj; rw [add_pl]; exact (new_cell w5 #[.int .i64 4, .int .i64 (N : Int), .slice none 0 0] 71 j).trans (by simpa using hj)) (by intro u' hu'; simp at hu'; rcases hu' with h | h | h <;> subst h <;> rfl) (by unfold maxLen; omega) (by omega) (by simp; omega) ?_)
          intro v' w4 q1 q2 q3
          obtain ⟨va, vl, vc, rfl⟩ : ∃ a l c, v' = .slice a l c := by rcases q1.2 with ⟨e, _⟩ | ⟨_, _, _, e, _⟩ <;> exact ⟨_, _, _, e⟩
          obtain ⟨z4, x4, ps4⟩ := push_fin (k := 4) (n := (N : Int)) hqH.out hR.out hgw Z5.out G5.out X5.out ⟨by decide, by omega⟩ hc1 (by omega) q1 q2 (fun b hb => by have := q3 b hb; simpa using this)
          have hfin : Hid (BE X g l p fs (.slice sa sl sc) w (.returned (.tuple #[zor, .bool false, .bool true])) (st3 (w4.setCell ⟨g, 2, none⟩ (.slice va vl vc)) R 0 0 (.slice none 0 0))) :=
            ⟨_, _, _, _, zor, false, true, rfl, ps4.out, .inr (.inr ⟨rfl, rfl, by omega, hktH.out⟩), _, _, _, _, rfl⟩
          clear q1 q2 q3 ps4
          have y2 := z4.out.c2
          have yf := z4.out.fz
          obtain ⟨w6, e6⟩ : ∃ w6, Hid (w4.setCell ⟨g, 2, none⟩ (.slice va vl vc) = w6) := ⟨_, (rfl : _ = _)⟩
          have X6 : Bo w6 R 0 0 (.slice none 0 0) := ⟨by rw [← e6.out, sc_blk _ _ _ (by omega)]; exact x4.out.b⟩
          rw [e6.out] at hfin
          go_upto_region 22 with fail
          rw [e6.out]
          have x0 := X6.c0
          have x1 := X6.c1
          have x2 := X6.c2
          have xf := X6.fz
          clear y2 yf X6
          go_wp2_with fail
          refine bodyPost_ret (v := .tuple #[zor, .bool false, .bool true]) (by simp [results, Tryd.results23, go_sem, x0, x1, x2, zor]) rfl ?_
          exact hfin.out
        · rw [decide_eq_false hM]
          have hM0 : Ps.mt [40] (l.drop c) = 0 := by have := Ps.mt_le1 [40] (l.drop c); simp at this; omega
          rw [hM0] at z5
          have hpa := Ps.pa_blue1 hbc hdc (by rw [hc.out]; omega)
          rw [hc.out] at hpa
          have hfin : Hid (BE X g l p fs (.slice sa sl sc) w (.returned (.tuple #[zor, .bool false, .bool false])) (st3 w5 R 0 0 (.slice none 0 0))) :=
            ⟨_, ss, fs, c, zor, false, false, rfl, fin.out _ c z5 G5.out hdl (by omega) _ _ _, .inl ⟨rfl, rfl, by rw [hpa, Ps.kont_none]⟩, _, _, _, _, rfl⟩
          have x0 := X5.out.c0
          have x1 := X5.out.c1
          have x2 := X5.out.c2
          have xf := X5.out.fz
          clear hpa hM hM0 hbc hdc z5 g5
          go_wp2_with fail
          refine bodyPost_ret (v := .tuple #[zor, .bool false, .bool false]) (by simp [results, Tryd.results23, go_sem, x0, x1, x2, zor]) rfl ?_
          exact hfin.out
    have hb4 : ((b.toNat : Int) == 98) = false := beq_eq_false_iff_ne.2 (fun e => hby4 (UInt8.toNat_inj.1 (Int.ofNat.inj e)))
    have hpa := Ps.pa_bad hb (fun h => by rcases h with h | h; exact hby h; exact hby2 h) hby3 hby4
    have hfin : Hid (∀ D, BE X g l p fs (.slice sa sl sc) w (.returned (.tuple #[zor, .bool false, .bool false])) (st3 (wa.drewN D) R 0 0 (.slice none 0 0))) := fun D =>
      ⟨_, ss, fs, p, zor, false, false, rfl, fin.out _ p (Za.out.drew D) (gb_dr Ga.out D) hp (Nat.le_refl _) _ _ _, .inl ⟨rfl, rfl, by rw [hpa, Ps.kont_none]⟩, _, _, _, _, rfl⟩
    have x0 : ∀ D, (wa.drewN D).cell? ⟨R, 0, none⟩ = some (.int .i64 0) := fun D => (Xa.out.dr D).c0
    have x1 : ∀ D, (wa.drewN D).cell? ⟨R, 1, none⟩ = some (.int .i64 0) := fun D => (Xa.out.dr D).c1
    have x2 : ∀ D, (wa.drewN D).cell? ⟨R, 2, none⟩ = some (.slice none 0 0) := fun D => (Xa.out.dr D).c2
    have xf : ∀ D i, (wa.drewN D).frozen? ⟨R, i, none⟩ = false := fun D i => (Xa.out.dr D).fz i
    clear hb hpa hby hby2 hby3 hby4
    go_wp2_with fail
    refine bodyPost_ret (v := .tuple #[zor, .bool false, .bool false]) (by simp [results, Tryd.results23, go_sem, x0, x1, x2, zor]) rfl ?_
    exact hfin.out _
end Go.Proofs.YtfoblbpbhldngaaDoor
