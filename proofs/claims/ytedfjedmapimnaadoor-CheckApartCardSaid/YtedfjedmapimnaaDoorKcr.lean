/-
  Package check: what a step touches, as rows in memory.
-/
import Derived.Test.YtedfjedmapimnaaDoorKc1
import Derived.Test.YtedfjedmapimnaaDoorSl1
import Derived.Lib.SmallJoins
import Derived.Test.YtedfjedmapimnaaDoorSp3
namespace Go.Proofs.YtedfjedmapimnaaDoor
open Flo Go.RowKit
/-- a row's cells, from p on; a list of rows that can be read -/
structure RAt (w : World) (q p : Nat) (r : Kc.Rw) : Prop where
  c0 : w.cell? ⟨q, p, none⟩ = some (.int .i64 r.f)
  c1 : w.cell? ⟨q, p + 1, none⟩ = some (.int .i64 r.j)
  c2 : w.cell? ⟨q, p + 2, none⟩ = some (.int .i64 r.c)
theorem RAt.below {w w' : World} {q p : Nat} {r : Kc.Rw} (h : RAt w q p r) (hb : Below w.heap.size w w') : RAt w' q p r :=
  ⟨(hb.cell (cell_lt h.c0)).trans h.c0, (hb.cell (cell_lt h.c1)).trans h.c1, (hb.cell (cell_lt h.c2)).trans h.c2⟩
def Rs (w : World) (ao : Option Addr) (rs : List Kc.Rw) : Prop := ∀ i r, rs[i]? = some r → ∃ q o, ao = some ⟨q, o, none⟩ ∧ RAt w q (o + i * 3) r
theorem Rs.below {w w' : World} {ao : Option Addr} {rs : List Kc.Rw} (h : Rs w ao rs) (hb : Below w.heap.size w w') : Rs w' ao rs := fun i r hi => by
  obtain ⟨q, o, e, hs⟩ := h i r hi
  exact ⟨q, o, e, hs.below hb⟩
def RdR (w : World) (v : Value) (rs : List Kc.Rw) : Prop := ∃ ao cap, v = .slice ao rs.length cap ∧ Rs w ao rs
theorem RdR.below {w w' : World} {v : Value} {rs : List Kc.Rw} (h : RdR w v rs) (hb : Below w.heap.size w w') : RdR w' v rs := by
  obtain ⟨ao, cap, e, hr⟩ := h
  exact ⟨ao, cap, e, hr.below hb⟩
theorem RdR.nil (w : World) : RdR w (.slice none 0 0) [] := ⟨none, 0, rfl, fun i r hi => by simp at hi⟩
theorem RdR.one {w : World} {g c : Nat} {r : Kc.Rw} (h : Brw w g r.f r.j r.c) : RdR w (.slice (some ⟨g, 0, none⟩) 1 c) [r] := ⟨_, _, rfl, fun i x hi => by
  match i, hi with
  | 0, hi => cases hi; exact ⟨g, 0, rfl, ⟨h.c0, h.c1, h.c2⟩⟩
  | n + 1, hi => simp at hi⟩
/-- what touchOf answers -/
def TcE (t : Kc.To) (w : World) (e : Ending) (w' : World) : Prop := ∃ v1 v2, e = .returned (.agg #[v1, v2, .bool t.wh]) ∧ RdR w' v1 t.rd ∧ RdR w' v2 t.wr ∧ Below w.heap.size w w'
theorem al3 {w : World} {a b c : Array Value} {s t u : TypeId} : Below w.heap.size w (((w.alloc (.cells a s)).alloc (.cells b t)).alloc (.cells c u)) :=
  have h1 := (Below.refl w.heap.size w).alloc (Nat.le_refl _) (.cells a s)
  have h2 := h1.alloc h1.size (.cells b t)
  h2.alloc h2.size _
theorem al4 {w : World} {a b c d : Array Value} {s t u v : TypeId} : Below w.heap.size w ((((w.alloc (.cells a s)).alloc (.cells b t)).alloc (.cells c u)).alloc (.cells d v)) := al3.alloc al3.size _
theorem al5 {w : World} {a b c d e : Array Value} {s t u v x : TypeId} : Below w.heap.size w (((((w.alloc (.cells a s)).alloc (.cells b t)).alloc (.cells c u)).alloc (.cells d v)).alloc (.cells e x)) := al4.alloc al4.size _
set_option maxHeartbeats 1000000 in
theorem ktouch1_c (d s j c n : Nat) (k : Int) (w : World) :
    Calls Tryd.prog 25 #[sv ⟨1, d, s, j, c, n, k⟩] w fun e w' => TcE (Kc.tou 1 d s j c n) w e w' := by
  unfold sv sva
  go_enter Tryd.func25, Tryd.ntmps25
  go_wp2
  refine bodyPost_ret (v := .agg #[.slice (some ⟨w.heap.size + 1 + 1 + 1, 0, none⟩) 1 1, .slice (some ⟨w.heap.size + 1 + 1, 0, none⟩) 1 1, .bool false]) (by simp [results, Tryd.results25, go_sem]) rfl ?_
  refine ⟨_, _, rfl, RdR.one ⟨by simp [go_sem], by simp [go_sem], by simp [go_sem]⟩, RdR.one ⟨by simp [go_sem], by simp [go_sem], by simp [go_sem]⟩, ?_⟩
  · exact al4
set_option maxHeartbeats 1000000 in
theorem ktouch2_c (d s j c n : Nat) (k : Int) (w : World) :
    Calls Tryd.prog 25 #[sv ⟨2, d, s, j, c, n, k⟩] w fun e w' => TcE (Kc.tou 2 d s j c n) w e w' := by
  unfold sv sva
  go_enter Tryd.func25, Tryd.ntmps25
  go_wp2
  refine bodyPost_ret (v := .agg #[.slice (some ⟨w.heap.size + 1 + 1 + 1, 0, none⟩) 1 1, .slice (some ⟨w.heap.size + 1 + 1 + 1 + 1, 0, none⟩) 1 1, .bool false]) (by simp [results, Tryd.results25, go_sem]) rfl ?_
  refine ⟨_, _, rfl, RdR.one ⟨by simp [go_sem], by simp [go_sem], by simp [go_sem]⟩, RdR.one ⟨by simp [go_sem], by simp [go_sem], by simp [go_sem]⟩, ?_⟩
  · exact al5
set_option maxHeartbeats 1000000 in
theorem ktouch3_c (d s j c n : Nat) (k : Int) (w : World) :
    Calls Tryd.prog 25 #[sv ⟨3, d, s, j, c, n, k⟩] w fun e w' => TcE (Kc.tou 3 d s j c n) w e w' := by
  unfold sv sva
  go_enter Tryd.func25, Tryd.ntmps25
  go_wp2
  refine bodyPost_ret (v := .agg #[.slice none 0 0, .slice (some ⟨w.heap.size + 1 + 1, 0, none⟩) 1 1, .bool false]) (by simp [results, Tryd.results25, go_sem]) rfl ?_
  refine ⟨_, _, rfl, RdR.nil _, RdR.one ⟨by simp [go_sem], by simp [go_sem], by simp [go_sem]⟩, ?_⟩
  · exact al3
set_option maxHeartbeats 1000000 in
theorem ktouch8_c (d s j c n : Nat) (k : Int) (w : World) :
    Calls Tryd.prog 25 #[sv ⟨8, d, s, j, c, n, k⟩] w fun e w' => TcE (Kc.tou 8 d s j c n) w e w' := by
  unfold sv sva
  go_enter Tryd.func25, Tryd.ntmps25
  go_wp2
  refine bodyPost_ret (v := .agg #[.slice none 0 0, .slice (some ⟨w.heap.size + 1 + 1, 0, none⟩) 1 1, .bool false]) (by simp [results, Tryd.results25, go_sem]) rfl ?_
  refine ⟨_, _, rfl, RdR.nil _, RdR.one ⟨by simp [go_sem], by simp [go_sem], by simp [go_sem]⟩, ?_⟩
  · exact al3
set_option maxHeartbeats 1000000 in
theorem ktouch6_c (d s j c n : Nat) (k : Int) (w : World) :
    Calls Tryd.prog 25 #[sv ⟨6, d, s, j, c, n, k⟩] w fun e w' => TcE (Kc.tou 6 d s j c n) w e w' := by
  unfold sv sva
  go_enter Tryd.func25, Tryd.ntmps25
  go_wp2
  refine bodyPost_ret (v := .agg #[.slice (some ⟨w.heap.size + 1 + 1 + 1, 0, none⟩) 1 1, .slice (some ⟨w.heap.size + 1 + 1, 0, none⟩) 1 1, .bool true]) (by simp [results, Tryd.results25, go_sem]) rfl ?_
  refine ⟨_, _, rfl, RdR.one ⟨by simp [go_sem], by simp [go_sem], by simp [go_sem]⟩, RdR.one ⟨by simp [go_sem], by simp [go_sem], by simp [go_sem]⟩, ?_⟩
  · exact al4
set_option maxHeartbeats 1000000 in
theorem ktouch4_c (d s j c n : Nat) (k : Int) (w : World) :
    Calls Tryd.prog 25 #[sv ⟨4, d, s, j, c, n, k⟩] w fun e w' => TcE (Kc.tou 4 d s j c n) w e w' := by
  unfold sv sva
  go_enter Tryd.func25, Tryd.ntmps25
  go_wp2
  refine bodyPost_ret (v := .agg #[.slice (some ⟨w.heap.size + 1 + 1, 0, none⟩) 1 1, .slice (some ⟨w.heap.size + 1 + 1, 0, none⟩) 1 1, .bool false]) (by simp [results, Tryd.results25, go_sem]) rfl ?_
  refine ⟨_, _, rfl, RdR.one ⟨by simp [go_sem], by simp [go_sem], by simp [go_sem]⟩, RdR.one ⟨by simp [go_sem], by simp [go_sem], by simp [go_sem]⟩, ?_⟩
  · exact al3
set_option maxHeartbeats 1000000 in
theorem ktouch7_c (d s j c n : Nat) (k : Int) (w : World) :
    Calls Tryd.prog 25 #[sv ⟨7, d, s, j, c, n, k⟩] w fun e w' => TcE (Kc.tou 7 d s j c n) w e w' := by
  unfold sv sva
  go_enter Tryd.func25, Tryd.ntmps25
  go_wp2
  refine bodyPost_ret (v := .agg #[.slice (some ⟨w.heap.size + 1 + 1, 0, none⟩) 1 1, .slice (some ⟨w.heap.size + 1 + 1, 0, none⟩) 1 1, .bool false]) (by simp [results, Tryd.results25, go_sem]) rfl ?_
  refine ⟨_, _, rfl, RdR.one ⟨by simp [go_sem], by simp [go_sem], by simp [go_sem]⟩, RdR.one ⟨by simp [go_sem], by simp [go_sem], by simp [go_sem]⟩, ?_⟩
  · exact al3
set_option maxHeartbeats 1000000 in
theorem ktouch10_c (d s j c n : Nat) (k : Int) (w : World) :
    Calls Tryd.prog 25 #[sv ⟨10, d, s, j, c, n, k⟩] w fun e w' => TcE (Kc.tou 10 d s j c n) w e w' := by
  unfold sv sva
  go_enter Tryd.func25, Tryd.ntmps25
  go_wp2
  refine bodyPost_ret (v := .agg #[.slice (some ⟨w.heap.size + 1 + 1, 0, none⟩) 1 1, .slice (some ⟨w.heap.size + 1 + 1, 0, none⟩) 1 1, .bool false]) (by simp [results, Tryd.results25, go_sem]) rfl ?_
  refine ⟨_, _, rfl, RdR.one ⟨by simp [go_sem], by simp [go_sem], by simp [go_sem]⟩, RdR.one ⟨by simp [go_sem], by simp [go_sem], by simp [go_sem]⟩, ?_⟩
  · exact al3
set_option maxHeartbeats 1000000 in
theorem ktouch11_c (d s j c n : Nat) (k : Int) (w : World) :
    Calls Tryd.prog 25 #[sv ⟨11, d, s, j, c, n, k⟩] w fun e w' => TcE (Kc.tou 11 d s j c n) w e w' := by
  unfold sv sva
  go_enter Tryd.func25, Tryd.ntmps25
  go_wp2
  refine bodyPost_ret (v := .agg #[.slice (some ⟨w.heap.size + 1 + 1, 0, none⟩) 1 1, .slice (some ⟨w.heap.size + 1 + 1, 0, none⟩) 1 1, .bool false]) (by simp [results, Tryd.results25, go_sem]) rfl ?_
  refine ⟨_, _, rfl, RdR.one ⟨by simp [go_sem], by simp [go_sem], by simp [go_sem]⟩, RdR.one ⟨by simp [go_sem], by simp [go_sem], by simp [go_sem]⟩, ?_⟩
  · exact al3
end Go.Proofs.YtedfjedmapimnaaDoor
/-
  Package check: what a step touches: the two great cases (times, fly), and all together.
-/
namespace Go.Proofs.YtedfjedmapimnaaDoor
open Flo Go.RowKit
theorem RdR.two {w : World} {g c : Nat} {r v : Kc.Rw} (h : RAt w g 0 r) (h2 : RAt w g 3 v) : RdR w (.slice (some ⟨g, 0, none⟩) 2 c) [r, v] := ⟨_, _, rfl, fun i x hi => by
  match i, hi with
  | 0, hi => cases hi; exact ⟨g, 0, rfl, h⟩
  | 1, hi => cases hi; exact ⟨g, 0, rfl, h2⟩
  | n + 2, hi => simp at hi⟩
set_option maxHeartbeats 2000000 in
theorem ktouch9_c (d s j c n : Nat) (k : Int) (w : World) :
    Calls Tryd.prog 25 #[sv ⟨9, d, s, j, c, n, k⟩] w fun e w' => TcE (Kc.tou 9 d s j c n) w e w' := by
  unfold sv sva
  go_enter Tryd.func25, Tryd.ntmps25
  go_upto_region 21 with fail
  go_region
  all_goals (
    go_wp2
    refine bodyPost_ret (v := .agg #[.slice (some ⟨w.heap.size + 1 + 1 + 1, 0, none⟩) 2 2, .slice (some ⟨w.heap.size + 1 + 1, 0, none⟩) 1 1, .bool false]) (by simp [results, Tryd.results25, go_sem]) rfl ?_
    refine ⟨_, _, rfl, RdR.two ⟨by simp [go_sem], by simp [go_sem], by simp [go_sem]⟩ ⟨by simp [go_sem], by simp [go_sem], by simp [go_sem]⟩, RdR.one ⟨by simp [go_sem], by simp [go_sem], by simp [go_sem]⟩, ?_⟩
    exact al4.drew)
/-- a list of rows that is being filled -/
structure Flw (w : World) (G d j c n k : Nat) : Prop where
  a : ∀ i, i < n * 3 → (w.cell? ⟨G, i, none⟩).isSome = true
  z : ∀ i, w.frozen? ⟨G, i, none⟩ = false
  r : ∀ q, q < k → RAt w G (q * 3) ⟨d + q * j, 1, c⟩
theorem Flw.step {w : World} {G d j c n k : Nat} (h : Flw w G d j c n k) (hk : k < n) :
    Flw (((w.setCell ⟨G, k * 3, none⟩ (.int .i64 ((d + k * j : Nat) : Int))).setCell ⟨G, k * 3 + 1, none⟩ (.int .i64 1)).setCell ⟨G, k * 3 + 2, none⟩ (.int .i64 (c : Int))) G d j c n (k + 1) := by
  have s0 := h.a (k * 3) (by omega)
  have s1 := h.a (k * 3 + 1) (by omega)
  have s2 := h.a (k * 3 + 2) (by omega)
  have ne : ∀ {a b : Nat}, a ≠ b → (⟨G, a, none⟩ : Addr) ≠ ⟨G, b, none⟩ := fun h e => h (by injection e)
  refine ⟨fun i hi => ?_, fun i => by simpa [go_sem] using h.z i, fun q hq => ?_⟩
  · obtain ⟨u, hu⟩ := Option.isSome_iff_exists.1 (h.a i hi)
    obtain ⟨u1, h1⟩ := cell?_setCell_some (p := ⟨G, k * 3, none⟩) (x := .int .i64 ((d + k * j : Nat) : Int)) hu
    obtain ⟨u2, h2⟩ := cell?_setCell_some (p := ⟨G, k * 3 + 1, none⟩) (x := .int .i64 1) h1
    obtain ⟨u3, h3⟩ := cell?_setCell_some (p := ⟨G, k * 3 + 2, none⟩) (x := .int .i64 (c : Int)) h2
    rw [h3]; rfl
  · by_cases e : q = k
    · subst e
      constructor
      · rw [World.cell?_setCell_other _ _ _ _ (ne (by omega)), World.cell?_setCell_other _ _ _ _ (ne (by omega)), World.cell?_setCell_same' _ _ _ s0]
      · rw [World.cell?_setCell_other _ _ _ _ (ne (by omega)), World.cell?_setCell_same' _ _ _ (by rw [World.cell?_setCell_other _ _ _ _ (ne (by omega))]; exact s1)]; rfl
      · rw [World.cell?_setCell_same' _ _ _ (by rw [World.cell?_setCell_other _ _ _ _ (ne (by omega)), World.cell?_setCell_other _ _ _ _ (ne (by omega))]; exact s2)]
    · obtain ⟨c0, c1, c2⟩ := h.r q (by omega)
      constructor
      · rw [World.cell?_setCell_other _ _ _ _ (ne (by omega)), World.cell?_setCell_other _ _ _ _ (ne (by omega)), World.cell?_setCell_other _ _ _ _ (ne (by omega))]; exact c0
      · rw [World.cell?_setCell_other _ _ _ _ (ne (by omega)), World.cell?_setCell_other _ _ _ _ (ne (by omega)), World.cell?_setCell_other _ _ _ _ (ne (by omega))]; exact c1
      · rw [World.cell?_setCell_other _ _ _ _ (ne (by omega)), World.cell?_setCell_other _ _ _ _ (ne (by omega)), World.cell?_setCell_other _ _ _ _ (ne (by omega))]; exact c2
theorem Flw.far {w : World} {G d j c n k : Nat} (h : Flw w G d j c n k) (p : Addr) (hp : p.block ≠ G) (v : Value) : Flw (w.setCell p v) G d j c n k :=
  ⟨fun i hi => by rw [World.cell?_setCell_far w p ⟨G, i, none⟩ v hp]; exact h.a i hi, fun i => by simpa [go_sem] using h.z i,
    fun q hq => ⟨by rw [World.cell?_setCell_far w p _ v hp]; exact (h.r q hq).c0, by rw [World.cell?_setCell_far w p _ v hp]; exact (h.r q hq).c1, by rw [World.cell?_setCell_far w p _ v hp]; exact (h.r q hq).c2⟩⟩
theorem Flw.rs {w : World} {G d j c n cap : Nat} (h : Flw w G d j c n n) : RdR w (.slice (some ⟨G, 0, none⟩) n cap) (Kc.flr d j c n) := by
  refine ⟨_, cap, by rw [show (Kc.flr d j c n).length = n by simp [Kc.flr]], fun i r hi => ⟨G, 0, rfl, ?_⟩⟩
  have hlt : i < n := by have := (List.getElem?_eq_some_iff.1 hi).1; simpa [Kc.flr] using this
  have e : r = ⟨d + i * j, 1, c⟩ := by simp [Kc.flr, hlt] at hi; exact hi.symm
  rw [Nat.zero_add, e]
  exact h.r i hlt
theorem infoR : (Tryd.prog.info? 72).map (fun i => (i.zero, i.size, i.bytes)) = some (some (.agg #[.int .i64 0, .int .i64 0, .int .i64 0]), 3, 24) := by kernel_rfl
theorem makeR (w : World) (d j c n : Nat) (h1 : 1 ≤ n) (hn : n ≤ 16384) :
    ∃ w', (Instr.makeSlice 53 (.int .i64 (n : Int)) (.int .i64 (n : Int))).run Tryd.prog w = .ok (.slice (some ⟨w.heap.size, 0, none⟩) n n) w' ∧
      Hid (Flw w' w.heap.size d j c n 0) ∧ Hid (Below w.heap.size w w') := by
  obtain ⟨i0, hi0, hz0, hz1, hz2⟩ := info_parts infoR
  have h := run_make (P := Tryd.prog) w 53 72 i0 _ Tryd.underlying53 hi0 hz0 .i64 .i64 (n : Int) (n : Int) (by omega) (by omega) (by rw [hz2]; omega) (by omega)
  rw [hz1, Int.toNat_natCast] at h
  have hb := heap_alloc_new w (.cells (madeCells (Value.cells (.agg #[.int .i64 0, .int .i64 0, .int .i64 0])) (n * 3)) 72)
  refine ⟨_, h, ⟨fun i hi => ?_, fun i => frozen_of_row _ _ i _ _ hb, fun q hq => absurd hq (by omega)⟩, (Below.refl _ w).alloc (Nat.le_refl _) _⟩
  have e := Joins.cell_of_block hb i
  rw [e]
  simp [madeCells, hi]
theorem meas_step {n q : Nat} (hq : q < n) (hn : n ≤ 140737488355328) : n - (intOf (.int .i64 (wrap64 ((q : Int) + 1)))).toNat < n - (intOf (.int .i64 (q : Int))).toNat := by
  have e : wrap64 ((q : Int) + 1) = ((q + 1 : Nat) : Int) := by unfold wrap64; omega
  rw [e]
  simp only [intOf, Int.toNat_natCast]
  omega
theorem w64 (M : Nat) (h : M ≤ 5 * 262144) : wrap64 (M : Int) = (M : Int) := by unfold wrap64; omega
theorem w64' (M : Nat) (h : M ≤ 262143 + 5 * 262144) : wrap64 (M : Int) = (M : Int) := by unfold wrap64; omega
structure Btc (w : World) (g : Nat) : Prop where
  c0 : w.cell? ⟨g, 0, none⟩ = some (.slice none 0 0)
  c1 : w.cell? ⟨g, 1, none⟩ = some (.slice none 0 0)
  c2 : w.cell? ⟨g, 2, none⟩ = some (.bool false)
  f0 : w.frozen? ⟨g, 0, none⟩ = false
  f1 : w.frozen? ⟨g, 1, none⟩ = false
  f2 : w.frozen? ⟨g, 2, none⟩ = false
theorem Btc.below {w w' : World} {g : Nat} (h : Btc w g) (hb : Below w.heap.size w w') : Btc w' g :=
  ⟨(hb.cell (p := ⟨g, 0, none⟩) (cell_lt h.c0)).trans h.c0, (hb.cell (p := ⟨g, 1, none⟩) (cell_lt h.c1)).trans h.c1, (hb.cell (p := ⟨g, 2, none⟩) (cell_lt h.c2)).trans h.c2,
    (World.frozen?_of_block (a := ⟨g, 0, none⟩) (hb.block g (cell_lt (a := ⟨g, 0, none⟩) h.c0))).trans h.f0, (World.frozen?_of_block (a := ⟨g, 1, none⟩) (hb.block g (cell_lt (a := ⟨g, 0, none⟩) h.c0))).trans h.f1, (World.frozen?_of_block (a := ⟨g, 2, none⟩) (hb.block g (cell_lt (a := ⟨g, 0, none⟩) h.c0))).trans h.f2⟩
set_option maxHeartbeats 2000000 in
theorem ktouch5_c (d s j c n : Nat) (k : Int) (w : World) (hn : 2 ≤ n ∧ n ≤ 5) (hd : d ≤ 262143) (hj : j ≤ 262144) :
    Calls Tryd.prog 25 #[sv ⟨5, d, s, j, c, n, k⟩] w fun e w' => TcE (Kc.tou 5 d s j c n) w e w' := by
  obtain ⟨wa, ewa⟩ : ∃ wa, Hid (((w.alloc (.cells #[.int .i64 5, .int .i64 d, .int .i64 s, .int .i64 j, .int .i64 c, .int .i64 n, .int .i64 k] 39)).alloc (.cells #[.slice none 0 0, .slice none 0 0, .bool false] 55)).alloc (.cells #[.int .i64 d, .int .i64 1, .int .i64 c] 72) = wa) := ⟨_, (rfl : _ = _)⟩
  obtain ⟨g, hg⟩ : ∃ g, Hid (w.heap.size = g) := ⟨_, (rfl : _ = _)⟩
  have Ba : Hid (Below w.heap.size w wa) := by rw [← ewa.out]; exact al3
  have X1 : Hid (Bst wa g 5 d s j c n k) := by show Bst _ _ _ _ _ _ _ _ _; rw [← ewa.out, ← hg.out]; constructor <;> simp [go_sem]
  have hT : Hid (Btc wa (g + 1)) := by
    show Btc _ _
    rw [← ewa.out, ← hg.out]; constructor <;> simp [go_sem]
  obtain ⟨wm, hmk, hF, hBm⟩ := makeR wa d j c n (by omega) (by omega)
  have hsz : Hid (wa.heap.size = g + 3) := by show _ = _; rw [← ewa.out, ← hg.out]; simp
  rw [hsz.out] at hmk hF
  have hnH : Hid (2 ≤ n ∧ n ≤ 5) := hn
  unfold sv sva
  go_enter Tryd.func25, Tryd.ntmps25
  go_upto_region 11 with fail
  rw [ewa.out, hg.out]
  obtain ⟨x0, x1, x2, x3, x4, x5, x6⟩ := X1.out
  go_wp2
  go_loopw [55] (fun i wr => ∃ q : Nat, q ≤ n ∧ i = .int .i64 q ∧ Hid (Below wa.heap.size wa wr ∧ Flw wr (g + 3) d j c n q)) (fun i _ => n - (intOf i).toNat)
  case atStart => exact ⟨0, Nat.zero_le _, rfl, hBm.out, hF.out⟩
  case round =>
    obtain ⟨q, hq, rfl, hr⟩ := hrel
    have hrH : Hid (Below wa.heap.size wa wr ∧ Flw wr (g + 3) d j c n q) := hr
    obtain ⟨y0, y1, y2, y3, y4, y5, y6⟩ := X1.out.below hrH.out.1
    by_cases hlt : q < n
    · have hlt' : (q : Int) < (n : Int) := by omega
      have hq1 : Hid (wrap64 ((q : Int) + 1) = ((q + 1 : Nat) : Int)) := by show _ = _; unfold wrap64; omega
      obtain ⟨M, hM⟩ : ∃ M : Nat, Hid (q * j = M) := ⟨_, (rfl : _ = _)⟩
      obtain ⟨Z, hZ⟩ : ∃ M : Nat, Hid (d + q * j = M) := ⟨_, (rfl : _ = _)⟩
      have hMb : M ≤ 5 * 262144 := by rw [← hM.out]; exact Nat.mul_le_mul (by omega) hj
      have e1 : wrap64 ((q : Int) * (j : Int)) = (M : Int) := by rw [← Int.natCast_mul, hM.out]; exact w64 M hMb
      have e2 : wrap64 ((d : Int) + (M : Int)) = (Z : Int) := by rw [← hZ.out, hM.out, ← Int.natCast_add]; exact w64' _ (Nat.add_le_add hd hMb)
      obtain ⟨u0, z0⟩ := Option.isSome_iff_exists.1 (hrH.out.2.a (q * 3) (by omega))
      obtain ⟨u1, z1⟩ := Option.isSome_iff_exists.1 (hrH.out.2.a (q * 3 + 1) (by omega))
      obtain ⟨u2, z2⟩ := Option.isSome_iff_exists.1 (hrH.out.2.a (q * 3 + 2) (by omega))
      have fz0 := hrH.out.2.z (q * 3)
      have fz1 := hrH.out.2.z (q * 3 + 1)
      have fz2 := hrH.out.2.z (q * 3 + 2)
      have hst := hrH.out.2.step hlt
      rw [hZ.out] at hst
      have hstH : Hid _ := hst
      clear hM hZ hMb hst hn hd hj hr
      go_upto_region 16 with fail
      rw [e2, e1]
      clear e1 e2 z0 z1 z2 fz0 fz1 fz2 y0 y1 y2 y3 y4 y5 y6
      go_wp2
      go_roundw
      case rel =>
        refine ⟨q + 1, hlt, congrArg (Value.int .i64) hq1.out, ?_, hstH.out⟩
        have hle := hsz.out
        exact ((hrH.out.1.setCell (p := ⟨g + 3, q * 3, none⟩) (Nat.le_of_eq hle) _).setCell (p := ⟨g + 3, q * 3 + 1, none⟩) (Nat.le_of_eq hle) _).setCell (p := ⟨g + 3, q * 3 + 2, none⟩) (Nat.le_of_eq hle) _
      case measure => exact meas_step hlt (Nat.le_trans hnH.out.2 (by decide))
    · have hlt' : decide ((q : Int) < (n : Int)) = false := decide_eq_false (by omega)
      obtain rfl : q = n := by omega
      have hFr : Hid (Flw wr (g + 3) d j c q q) := hrH.out.2
      obtain ⟨t0, t1, t2, t3, t4, t5⟩ := hT.out.below hrH.out.1
      have hBr : Hid (Below wa.heap.size wa wr) := hrH.out.1
      clear hr hrH hn hd hj ewa hmk hF hBm
      clear y0 y1 y2 y3 y4 y5 y6 x0 x1 x2 x3 x4 x5 x6
      go_wp2
      refine bodyPost_ret (v := .agg #[.slice (some ⟨g + 3, 0, none⟩) q q, .slice (some ⟨g + 3, 0, none⟩) q q, .bool false]) (by simp [results, Tryd.results25, go_sem, t0, t1, t2]) rfl ?_
      have hF3 := ((hFr.out.far ⟨g + 1, 0, none⟩ (by simp) (.slice (some ⟨g + 3, 0, none⟩) q q)).far ⟨g + 1, 1, none⟩ (by simp) (.slice (some ⟨g + 3, 0, none⟩) q q)).far ⟨g + 1, 2, none⟩ (by simp) (.bool false)
      have hle : w.heap.size ≤ g + 1 := by have := hg.out; omega
      exact ⟨_, _, rfl, hF3.rs, hF3.rs, (((Ba.out.trans (hBr.out.mono Ba.out.size)).setCell (p := ⟨g + 1, 0, none⟩) hle _).setCell (p := ⟨g + 1, 1, none⟩) hle _).setCell (p := ⟨g + 1, 2, none⟩) hle _⟩
/-- touchOf of a step that is in form -/
theorem ktouch_c {o d s j c n : Nat} (h : Kc.Fo o d s j c n) (k : Int) (w : World) :
    Calls Tryd.prog 25 #[sv ⟨o, d, s, j, c, n, k⟩] w fun e w' => TcE (Kc.tou o d s j c n) w e w' := by
  rcases Kc.ops h.o1 h.o2 with rfl | rfl | (rfl | rfl) | rfl | rfl | rfl | (rfl | rfl | rfl | rfl)
  · exact ktouch1_c d s j c n k w
  · exact ktouch2_c d s j c n k w
  · exact ktouch3_c d s j c n k w
  · exact ktouch8_c d s j c n k w
  · obtain ⟨h1, h2, h3⟩ := h.n5 rfl
    exact ktouch5_c d s j c n k w ⟨h1, h2⟩ h.d2 h.j2
  · exact ktouch6_c d s j c n k w
  · exact ktouch9_c d s j c n k w
  · exact ktouch4_c d s j c n k w
  · exact ktouch7_c d s j c n k w
  · exact ktouch10_c d s j c n k w
  · exact ktouch11_c d s j c n k w
theorem rok_of {o d s j c n : Nat} (h : Kc.Fo o d s j c n) : (∀ r ∈ (Kc.tou o d s j c n).rd, Rok r) ∧ ∀ r ∈ (Kc.tou o d s j c n).wr, Rok r := by
  obtain ⟨h1, h2, h3, h4, h5, h6, h7, h8, h9, h10⟩ := h
  have own : Rok ⟨d, 1, c⟩ := ⟨by simp only; omega, Nat.le_refl 1, (by decide : 1 ≤ 262144), h5, h6⟩
  have src : Rok ⟨s, 1, c⟩ := ⟨by simp only; omega, Nat.le_refl 1, (by decide : 1 ≤ 262144), h5, h6⟩
  rcases Kc.ops h1 h2 with rfl | rfl | ho | rfl | rfl | rfl | ho
  · have hj := h8 (by decide)
    exact ⟨by simp [Kc.tou]; exact ⟨by simp only; omega, hj, h7, h5, h6⟩, by simp [Kc.tou]; exact own⟩
  · have hj := h8 (by decide)
    exact ⟨by simp [Kc.tou]; exact src, by simp [Kc.tou]; exact ⟨by simp only; omega, hj, h7, h5, h6⟩⟩
  · have e : Kc.tou o d s j c n = ⟨[], [⟨d, 1, c⟩], false⟩ := by unfold Kc.tou; rcases ho with rfl | rfl <;> rfl
    rw [e]; exact ⟨by simp, by simp; exact own⟩
  · obtain ⟨n1, n2, n3⟩ := h9 rfl
    have e : Kc.tou 5 d s j c n = ⟨Kc.flr d j c n, Kc.flr d j c n, false⟩ := rfl
    have hh : ∀ r ∈ Kc.flr d j c n, Rok r := fun r hr => by
      obtain ⟨q, hq, rfl⟩ := Kc.mem_flr.1 hr
      have : q * j ≤ 5 * 262144 := Nat.mul_le_mul (by omega) h7
      exact ⟨by simp only; omega, Nat.le_refl 1, (by decide : 1 ≤ 262144), h5, h6⟩
    rw [e]; exact ⟨hh, hh⟩
  · obtain ⟨n1, n2, n3⟩ := h10 rfl
    have hj := h8 (by decide)
    exact ⟨by simp [Kc.tou]; exact ⟨by simp only; omega, hj, h7, n1, by simp only; omega⟩, by simp [Kc.tou]; exact own⟩
  · have e : Kc.tou 9 d s j c n = ⟨[⟨d, 1, c⟩, ⟨s, 1, c⟩], [⟨d, 1, c⟩], false⟩ := rfl
    rw [e]; exact ⟨by simp; exact ⟨own, src⟩, by simp; exact own⟩
  · have e : Kc.tou o d s j c n = ⟨[⟨d, 1, c⟩], [⟨d, 1, c⟩], false⟩ := by unfold Kc.tou; rcases ho with rfl | rfl | rfl | rfl <;> rfl
    rw [e]; exact ⟨by simp; exact own, by simp; exact own⟩
/-- what the form of a step says -/
theorem fo_of {s : Sp.St} (h : Sp.fm s = true) : ∃ o d a j c n : Nat, s.op = o ∧ s.dst = d ∧ s.src = a ∧ s.jump = j ∧ s.count = c ∧ s.n = n ∧ Kc.Fo o d a j c n ∧ n ≤ 16384 := by
  obtain ⟨op, dst, src, jump, count, n, k⟩ := s
  rw [← Sp.dfm_eq] at h
  unfold Sp.dfm at h
  simp only [Bool.and_eq_true, Sp.wi_iff] at h
  obtain ⟨⟨⟨⟨hk, hd⟩, hc⟩, hg⟩, hn⟩ := h
  have hkk := Sp.kn_iff.1 hk
  obtain ⟨o, rfl⟩ : ∃ o : Nat, op = (o : Int) := ⟨op.toNat, by omega⟩
  unfold Sp.dgood at hg
  simp only [Bool.and_eq_true, Sp.wi_iff, Int.toNat_natCast] at hg
  obtain ⟨⟨⟨⟨hs1, hs2⟩, hj⟩, hn2⟩, -⟩ := hg
  obtain ⟨d, rfl⟩ : ∃ o : Nat, dst = (o : Int) := ⟨dst.toNat, by omega⟩
  obtain ⟨a, rfl⟩ : ∃ o : Nat, src = (o : Int) := ⟨src.toNat, by omega⟩
  obtain ⟨c, rfl⟩ : ∃ o : Nat, count = (o : Int) := ⟨count.toNat, by omega⟩
  have hj0 : 0 ≤ jump ∧ jump ≤ 262144 ∧ (Sp.hj o = true → 1 ≤ jump) := by
    cases e : Sp.hj o with
    | true => rw [e, cond_true, Sp.wi_iff] at hj; exact ⟨by omega, hj.2, fun _ => hj.1⟩
    | false => rw [e, cond_false, beq_iff_eq] at hj; exact ⟨by omega, by omega, fun h => by cases h⟩
  obtain ⟨j, rfl⟩ : ∃ o : Nat, jump = (o : Int) := ⟨jump.toNat, by omega⟩
  have hnum : (0 ≤ n ∧ n ≤ 16384) ∧ (o = 5 → 2 ≤ n ∧ n ≤ 5 ∧ (c : Int) ≤ j) ∧ (o = 6 → 1 ≤ n ∧ n ≤ 64 ∧ (c : Int) ≤ n) := by
    unfold Sp.num at hn
    rcases Sp.kn_cases hk with e | e | e | e | e | e | e | e | e | e | e
    all_goals (
      obtain rfl : o = _ := Int.ofNat.inj e
      simp [Sp.wi, Sp.hn] at hn hn2
      refine ⟨by omega, fun h => ?_, fun h => ?_⟩ <;> first | omega | (exfalso; revert h; decide))
  obtain ⟨m, rfl⟩ : ∃ o : Nat, n = (o : Int) := ⟨n.toNat, by omega⟩
  refine ⟨o, d, a, j, c, m, rfl, rfl, rfl, rfl, rfl, rfl, ⟨by omega, by omega, by omega, by omega, by omega, by omega, by omega, fun h => ?_, fun h => ?_, fun h => ?_⟩, by omega⟩
  · have : Sp.hj o = true := by rcases h with rfl | rfl | rfl | rfl <;> rfl
    have := hj0.2.2 this
    omega
  · have := hnum.2.1 h; omega
  · have := hnum.2.2 h; omega
end Go.Proofs.YtedfjedmapimnaaDoor
/-
  Package check: below, clashes, good.
-/
namespace Go.Proofs.YtedfjedmapimnaaDoor
open Flo Go.RowKit
/-- a touch at a block -/
structure Bto (w : World) (g : Nat) (v1 v2 : Value) (b : Bool) : Prop where
  c0 : w.cell? ⟨g, 0, none⟩ = some v1
  c1 : w.cell? ⟨g, 1, none⟩ = some v2
  c2 : w.cell? ⟨g, 2, none⟩ = some (.bool b)
theorem Bto.below {w w' : World} {g : Nat} {v1 v2 : Value} {b : Bool} (h : Bto w g v1 v2 b) (hb : Below w.heap.size w w') : Bto w' g v1 v2 b := ⟨(hb.cell (p := ⟨g, 0, none⟩) (cell_lt h.c0)).trans h.c0, (hb.cell (p := ⟨g, 1, none⟩) (cell_lt h.c1)).trans h.c1, (hb.cell (p := ⟨g, 2, none⟩) (cell_lt h.c2)).trans h.c2⟩
set_option maxHeartbeats 1000000 in
theorem kclos_c (r : Kc.Rw) (h : Rok r) (g : Nat) (cells : Int) (w : World) (hc : w.cell? ⟨g, 0, none⟩ = some (.int .i64 cells)) :
    Calls Tryd.prog 41 #[rv r, .pointer (some ⟨g, 0, none⟩)] w fun e w' => e = .returned (.bool (Kc.bey cells r)) ∧ Below w.heap.size w w' := by
  obtain ⟨G, hG⟩ : ∃ g, Hid (w.heap.size = g) := ⟨_, (rfl : _ = _)⟩
  obtain ⟨wa, ewa⟩ : ∃ wa, Hid (w.alloc (.cells #[.int .i64 r.f, .int .i64 r.j, .int .i64 r.c] 72) = wa) := ⟨_, (rfl : _ = _)⟩
  have Ba : Hid (Below w.heap.size w wa) := by rw [← ewa.out]; exact (Below.refl _ _).alloc (Nat.le_refl _) _
  have X1 : Hid (Brw wa G r.f r.j r.c) := by rw [← ewa.out, ← hG.out]; exact Brw.new w r.f r.j r.c
  have hca : wa.cell? ⟨g, 0, none⟩ = some (.int .i64 cells) := (Ba.out.cell (cell_lt hc)).trans hc
  have hcH : Hid (wa.cell? ⟨g, 0, none⟩ = some (.int .i64 cells)) := hca
  have c1 : Hid (∀ W, Below wa.heap.size wa W → Calls Tryd.prog 42 #[rv r] W fun e w' => e = .returned (.int .i64 (r.last : Nat)) ∧ Below wa.heap.size wa w') := fun W hW => (klast_c r h W).mono fun e w' ⟨e1, e2⟩ => ⟨e1, hW.trans (e2.mono hW.size)⟩
  have hb : Hid (Kc.bey cells r = decide (cells ≤ (r.last : Int))) := (rfl : _ = _)
  obtain ⟨b, hbb⟩ : ∃ b, Hid (Kc.bey cells r = b) := ⟨_, (rfl : _ = _)⟩
  rw [hbb.out] at hb ⊢
  have hq : decide (cells ≤ (r.last : Int)) = b := hb.out.symm
  clear h hb hbb hc
  generalize r.last = L at c1 hq
  unfold rv rva at *
  go_enter Tryd.func41, Tryd.ntmps41
  go_upto_region 1 with fail
  rw [ewa.out, hG.out]
  obtain ⟨x0, x1, x2⟩ := X1.out
  go_region_held3 (fun Z => Z.cell? ⟨G, 0, none⟩ = some (.int .i64 (r.f : Int)) ∧ Z.cell? ⟨G, 1, none⟩ = some (.int .i64 (r.j : Int)) ∧ Z.cell? ⟨G, 2, none⟩ = some (.int .i64 (r.c : Int)) ∧ Z.cell? ⟨g, 0, none⟩ = some (.int .i64 cells)) (go_keep) ((first
    | (go_at_call 42; refine (c1.out _ ?_).mono ?_; (first | assumption | exact Below.refl _ _ | exact (Below.refl _ _).drew | exact Below.drew (by assumption)); rintro e w5 ⟨rfl, B5⟩; obtain ⟨x0, x1, x2⟩ := X1.out.below B5; have hca := (B5.cell (cell_lt hcH.out)).trans hcH.out)))
  all_goals (
    go_wp2
    go_ret
    exact ⟨rfl, Ba.out.trans (Below.mono (by assumption) Ba.out.size)⟩)
theorem any_at {rs : List Kc.Rw} {p : Kc.Rw → Bool} {k : Nat} {r : Kc.Rw} (h : rs[k]? = some r) (hp : p r = true) : rs.any p = true := List.any_eq_true.2 ⟨r, List.mem_of_getElem? h, hp⟩
theorem any_no {rs : List Kc.Rw} {p : Kc.Rw → Bool} (h : ∀ q r, q < rs.length → rs[q]? = some r → p r = false) : rs.any p = false := Kc.any_false.2 fun x hx => by
  obtain ⟨q, hq, e⟩ := List.mem_iff_getElem.1 hx
  exact h q x hq (by rw [List.getElem?_eq_getElem hq, e])
set_option maxHeartbeats 1000000 in
theorem kidx_c (rs : List Kc.Rw) (ao : Option Addr) (cap : Nat) (hR : ∀ r ∈ rs, Rok r) (hl : rs.length ≤ 64) (g : Nat) (cells : Int) (w : World) (hc : w.cell? ⟨g, 0, none⟩ = some (.int .i64 cells)) (hs : Rs w ao rs) :
    Calls Tryd.prog 52 #[.slice ao rs.length cap, .func (.func 41) #[] #[.pointer (some ⟨g, 0, none⟩)]] w fun e w' => (∃ I : Int, e = .returned (.int .i64 I) ∧ decide (0 ≤ I) = rs.any (Kc.bey cells)) ∧ Below w.heap.size w w' := by
  have hcH : Hid (w.cell? ⟨g, 0, none⟩ = some (.int .i64 cells)) := hc
  have hsH : Hid (Rs w ao rs) := hs
  have hRH : Hid (∀ r ∈ rs, Rok r) := hR
  obtain ⟨n, hn⟩ : ∃ n, Hid (rs.length = n) := ⟨_, (rfl : _ = _)⟩
  rw [hn.out] at hl ⊢
  clear hc hs hR
  go_enter Tryd.func52, Tryd.ntmps52
  go_wp2
  go_loopw [8] (fun i wr => ∃ k : Nat, k ≤ n ∧ i = .int .i64 k ∧ Hid (Below w.heap.size w wr) ∧ Hid (∀ q r, q < k → rs[q]? = some r → Kc.bey cells r = false)) (fun i _ => n - (intOf i).toNat)
  case atStart => exact ⟨0, Nat.zero_le _, rfl, Below.refl _ _, fun q r h => absurd h (by omega)⟩
  case round =>
    obtain ⟨k, hk, rfl, Bk, hbef⟩ := hrel
    by_cases hlt : k < n
    · have hlt' : (k : Int) < (n : Int) := by omega
      obtain ⟨r, hr⟩ : ∃ r, rs[k]? = some r := ⟨_, List.getElem?_eq_getElem (by rw [hn.out]; exact hlt)⟩
      obtain ⟨q, o, rfl, hat⟩ := hsH.out k r hr
      obtain ⟨y0, y1, y2⟩ := hat.below Bk.out
      have hcl : Hid (Calls Tryd.prog 41 #[rv r, .pointer (some ⟨g, 0, none⟩)] wr fun e w' => e = .returned (.bool (Kc.bey cells r)) ∧ Below wr.heap.size wr w') := kclos_c r (hRH.out r (List.mem_of_getElem? hr)) g cells wr ((Bk.out.cell (cell_lt hcH.out)).trans hcH.out)
      obtain ⟨b, hb⟩ : ∃ b, Hid (Kc.bey cells r = b) := ⟨_, (rfl : _ = _)⟩
      rw [hb.out] at hcl
      have hrH : Hid (rs[k]? = some r) := hr
      unfold rv rva at hcl
      clear hat hr
      go_wp2_with fail
      refine hcl.out.mono ?_
      rintro e w1 ⟨rfl, B1⟩
      have Bn : Hid (Below w.heap.size w w1) := Bk.out.trans (B1.mono Bk.out.size)
      clear y0 y1 y2 B1 hcl
      cases b with
      | true =>
        have hA : Hid (rs.any (Kc.bey cells) = true) := any_at hrH.out hb.out
        have hd : Hid (decide ((0 : Int) ≤ (k : Int)) = true) := decide_eq_true (by omega)
        go_wp2
        go_ret
        exact ⟨⟨_, rfl, by rw [hA.out, hd.out]⟩, Bn.out⟩
      | false =>
        have hbef2 : Hid (∀ q r, q < k + 1 → rs[q]? = some r → Kc.bey cells r = false) := fun q r h1 h2 => by
          by_cases e : q = k
          · subst e; rw [hrH.out] at h2; cases h2; exact hb.out
          · exact hbef.out q r (by omega) h2
        go_wp2
        go_roundw
        case rel => exact ⟨k + 1, by omega, by go_num, Bn, hbef2⟩
        case measure => simp [intOf]; omega
    · have hlt' : decide ((k : Int) < (n : Int)) = false := decide_eq_false (by omega)
      have hlt2 : ¬ k < n := hlt
      have hA : Hid (rs.any (Kc.bey cells) = false) := any_no fun q r h1 h2 => hbef.out q r (by have := hn.out; omega) h2
      go_wp2
      go_ret
      exact ⟨⟨_, rfl, by rw [hA.out]; rfl⟩, Bk.out⟩
theorem kcon_c (rs : List Kc.Rw) (v : Value) (hR : ∀ r ∈ rs, Rok r) (hl : rs.length ≤ 64) (g : Nat) (cells : Int) (w : World) (hc : w.cell? ⟨g, 0, none⟩ = some (.int .i64 cells)) (hs : RdR w v rs) :
    Calls Tryd.prog 43 #[v, .func (.func 41) #[] #[.pointer (some ⟨g, 0, none⟩)]] w fun e w' => e = .returned (.bool (rs.any (Kc.bey cells))) ∧ Below w.heap.size w w' := by
  obtain ⟨ao, cap, rfl, hs⟩ := hs
  have hI : Hid (Calls Tryd.prog 52 #[.slice ao rs.length cap, .func (.func 41) #[] #[.pointer (some ⟨g, 0, none⟩)]] w fun e w' => (∃ I : Int, e = .returned (.int .i64 I) ∧ decide (0 ≤ I) = rs.any (Kc.bey cells)) ∧ Below w.heap.size w w') := kidx_c rs ao cap hR hl g cells w hc hs
  obtain ⟨b, hb⟩ : ∃ b, Hid (rs.any (Kc.bey cells) = b) := ⟨_, (rfl : _ = _)⟩
  rw [hb.out] at hI ⊢
  clear hs hR hc
  go_enter Tryd.func43, Tryd.ntmps43
  go_wp2_with fail
  refine hI.out.mono ?_
  rintro e w1 ⟨⟨I, rfl, hd⟩, B1⟩
  have BH : Hid (Below w.heap.size w w1) := B1
  clear B1
  go_wp2
  go_ret
  exact ⟨rfl, BH.out⟩
theorem len_tou {o d s j c n : Nat} (h : Kc.Fo o d s j c n) : (Kc.tou o d s j c n).rd.length ≤ 64 ∧ (Kc.tou o d s j c n).wr.length ≤ 64 := by
  have five : o = 5 → (Kc.tou o d s j c n).rd.length ≤ 64 ∧ (Kc.tou o d s j c n).wr.length ≤ 64 := by
    rintro rfl
    obtain ⟨h1, h2, h3⟩ := h.n5 rfl
    have e : Kc.tou 5 d s j c n = ⟨Kc.flr d j c n, Kc.flr d j c n, false⟩ := rfl
    rw [e]
    have : (Kc.flr d j c n).length = n := by simp [Kc.flr]
    simp only [this]
    omega
  rcases Kc.ops h.o1 h.o2 with rfl | rfl | (rfl | rfl) | rfl | rfl | rfl | (rfl | rfl | rfl | rfl)
  all_goals first | exact five rfl | exact ⟨by simp [Kc.tou], by simp [Kc.tou]⟩
set_option maxHeartbeats 1000000 in
theorem kbelow_c (t : Kc.To) (v1 v2 : Value) (cells : Int) (w : World) (h1 : RdR w v1 t.rd) (h2 : RdR w v2 t.wr) (hr : ∀ r ∈ t.rd, Rok r) (hv : ∀ r ∈ t.wr, Rok r) (hl1 : t.rd.length ≤ 64) (hl2 : t.wr.length ≤ 64) :
    Calls Tryd.prog 32 #[.agg #[v1, v2, .bool t.wh], .int .i64 cells] w fun e w' => e = .returned (.bool (t.below cells)) ∧ Below w.heap.size w w' := by
  obtain ⟨g, hg⟩ : ∃ g, Hid (w.heap.size = g) := ⟨_, (rfl : _ = _)⟩
  obtain ⟨wa, ewa⟩ : ∃ wa, Hid ((w.alloc (.cells #[v1, v2, .bool t.wh] 55)).alloc (.cells #[.int .i64 cells] 3) = wa) := ⟨_, (rfl : _ = _)⟩
  have Ba : Hid (Below w.heap.size w wa) := by rw [← ewa.out]; exact ((Below.refl _ _).alloc (Nat.le_refl _) _).alloc (by simp) _
  have X1 : Hid (Bto wa g v1 v2 t.wh) := by rw [← ewa.out, ← hg.out]; constructor <;> simp [go_sem]
  have C1 : Hid (wa.cell? ⟨g + 1, 0, none⟩ = some (.int .i64 cells)) := by show _ = _; rw [← ewa.out, ← hg.out]; simp [go_sem]
  have hc1 : Hid (∀ W, Below wa.heap.size wa W → Calls Tryd.prog 43 #[v1, .func (.func 41) #[] #[.pointer (some ⟨g + 1, 0, none⟩)]] W fun e w' => e = .returned (.bool (t.rd.any (Kc.bey cells))) ∧ Below W.heap.size W w') := fun W hW => kcon_c _ _ hr hl1 _ _ W ((hW.cell (cell_lt C1.out)).trans C1.out) (h1.below (Ba.out.trans (hW.mono Ba.out.size)))
  have hc2 : Hid (∀ W, Below wa.heap.size wa W → Calls Tryd.prog 43 #[v2, .func (.func 41) #[] #[.pointer (some ⟨g + 1, 0, none⟩)]] W fun e w' => e = .returned (.bool (t.wr.any (Kc.bey cells))) ∧ Below W.heap.size W w') := fun W hW => kcon_c _ _ hv hl2 _ _ W ((hW.cell (cell_lt C1.out)).trans C1.out) (h2.below (Ba.out.trans (hW.mono Ba.out.size)))
  unfold Kc.To.below
  generalize t.rd.any (Kc.bey cells) = p1 at *
  generalize t.wr.any (Kc.bey cells) = p2 at *
  generalize t.wh = tw at *
  clear h1 h2 hr hv
  go_enter Tryd.func32, Tryd.ntmps32
  go_upto_region 1 with fail
  rw [ewa.out, hg.out]
  obtain ⟨x0, x1, x2⟩ := X1.out
  go_wp2_with fail
  refine (hc1.out wa (Below.refl _ _)).mono ?_
  rintro e w1 ⟨rfl, B1⟩
  have B1H : Hid (Below wa.heap.size wa w1) := B1
  have Z1 := X1.out.below B1
  clear x0 x1 x2 B1 hc1
  obtain ⟨x0, x1, x2⟩ := Z1
  cases p1 with
  | true =>
    go_wp2
    go_ret
    exact ⟨rfl, Ba.out.trans (B1H.out.mono Ba.out.size)⟩
  | false =>
    go_wp2_with fail
    refine (hc2.out w1 B1H.out).mono ?_
    rintro e w2 ⟨rfl, B2⟩
    have B2H : Hid (Below w.heap.size w w2) := (Ba.out.trans (B1H.out.mono Ba.out.size)).trans (B2.mono (Nat.le_trans Ba.out.size B1H.out.size))
    clear B2 x0 x1 x2
    go_wp2
    go_ret
    exact ⟨rfl, B2H.out⟩
set_option maxHeartbeats 2000000 in
theorem kclash_c (t : Kc.To) (v1 v2 : Value) (w : World) (h1 : RdR w v1 t.rd) (h2 : RdR w v2 t.wr) (hr : ∀ r ∈ t.rd, Rok r) (hv : ∀ r ∈ t.wr, Rok r) (hl1 : t.rd.length ≤ 64) (hl2 : t.wr.length ≤ 64) :
    Calls Tryd.prog 33 #[.agg #[v1, v2, .bool t.wh]] w fun e w' => e = .returned (.bool t.clash) ∧ Below w.heap.size w w' := by
  obtain ⟨g, hg⟩ : ∃ g, Hid (w.heap.size = g) := ⟨_, (rfl : _ = _)⟩
  obtain ⟨a1, c1, rfl, hs1⟩ := h1
  obtain ⟨a2, c2, rfl, hs2⟩ := h2
  obtain ⟨n1, hn1⟩ : ∃ n, Hid (t.rd.length = n) := ⟨_, (rfl : _ = _)⟩
  obtain ⟨n2, hn2⟩ : ∃ n, Hid (t.wr.length = n) := ⟨_, (rfl : _ = _)⟩
  obtain ⟨wa, ewa⟩ : ∃ wa, Hid (w.alloc (.cells #[.slice a1 t.rd.length c1, .slice a2 t.wr.length c2, .bool t.wh] 55) = wa) := ⟨_, (rfl : _ = _)⟩
  have Ba : Hid (Below w.heap.size w wa) := by rw [← ewa.out]; exact (Below.refl _ _).alloc (Nat.le_refl _) _
  have X1 : Hid (Bto wa g (.slice a1 t.rd.length c1) (.slice a2 t.wr.length c2) t.wh) := by rw [← ewa.out, ← hg.out]; constructor <;> simp [go_sem]
  have s1 : Hid (Rs wa a1 t.rd) := hs1.below Ba.out
  have s2 : Hid (Rs wa a2 t.wr) := hs2.below Ba.out
  have hrH : Hid (∀ r ∈ t.rd, Rok r) := hr
  have hvH : Hid (∀ r ∈ t.wr, Rok r) := hv
  obtain ⟨tw, htw⟩ : ∃ b, Hid (t.wh = b) := ⟨_, (rfl : _ = _)⟩
  rw [hn1.out, hn2.out, htw.out] at X1 ewa
  rw [hn1.out, hn2.out, htw.out]
  rw [hn1.out] at hl1
  rw [hn2.out] at hl2
  obtain ⟨res, hres⟩ : ∃ b, Hid (t.clash = b) := ⟨_, (rfl : _ = _)⟩
  rw [hres.out]
  clear hs1 hs2 hr hv
  go_enter Tryd.func33, Tryd.ntmps33
  go_upto_region 1 with fail
  rw [ewa.out, hg.out]
  obtain ⟨x0, x1, x2⟩ := X1.out
  go_wp2
  clear x0 x1 x2
  go_loopw [10] (fun i wr => ∃ k : Nat, k ≤ n2 ∧ i = .int .i64 k ∧ Hid (Below wa.heap.size wa wr) ∧ Hid (∀ q v, q < k → t.wr[q]? = some v → (t.rd.any fun r => t.hit v r) = false)) (fun i _ => n2 - (intOf i).toNat)
  case atStart => exact ⟨0, Nat.zero_le _, rfl, Below.refl _ _, fun q r h => absurd h (by omega)⟩
  case round =>
    obtain ⟨k, hk, rfl, Bk, hbef⟩ := hrel
    by_cases hlt : k < n2
    · have hlt' : (k : Int) < (n2 : Int) := by omega
      obtain ⟨v, hv⟩ : ∃ v, t.wr[k]? = some v := ⟨_, List.getElem?_eq_getElem (by rw [hn2.out]; exact hlt)⟩
      obtain ⟨q, o, rfl, hat⟩ := s2.out k v hv
      obtain ⟨y0, y1, y2⟩ := hat.below Bk.out
      obtain ⟨x0, x1, x2⟩ := X1.out.below Bk.out
      obtain ⟨wb, ewb⟩ : ∃ wb, Hid (wr.alloc (.cells #[.int .i64 v.f, .int .i64 v.j, .int .i64 v.c] 72) = wb) := ⟨_, (rfl : _ = _)⟩
      obtain ⟨gv, hgv⟩ : ∃ g, Hid (wr.heap.size = g) := ⟨_, (rfl : _ = _)⟩
      have Bb : Hid (Below wa.heap.size wa wb) := by rw [← ewb.out]; exact Bk.out.alloc Bk.out.size _
      have V1 : Hid (Brw wb gv v.f v.j v.c) := by rw [← ewb.out, ← hgv.out]; exact Brw.new wr _ _ _
      go_upto_region 4 with fail
      rw [ewb.out, hgv.out]
      clear y0 y1 y2 x0 x1 x2
      obtain ⟨x0, x1, x2⟩ := X1.out.below Bb.out
      obtain ⟨y0, y1, y2⟩ := V1.out
      go_wp2
      clear x0 x1 x2 y0 y1 y2
      go_loopw [17] (fun i wr => ∃ m : Nat, m ≤ n1 ∧ i = .int .i64 m ∧ Hid (Below wb.heap.size wb wr) ∧ Hid (∀ q r, q < m → t.rd[q]? = some r → t.hit v r = false)) (fun i _ => n1 - (intOf i).toNat)
      case atStart => exact ⟨0, Nat.zero_le _, rfl, Below.refl _ _, fun q r h => absurd h (by omega)⟩
      case round =>
        obtain ⟨m, hm, rfl, Bm, hbe2⟩ := hrel
        have Bt : Hid (Below wa.heap.size wa wr) := Bb.out.trans (Bm.out.mono Bb.out.size)
        by_cases hlm : m < n1
        · have hlm' : (m : Int) < (n1 : Int) := by omega
          obtain ⟨r, hr⟩ : ∃ r, t.rd[m]? = some r := ⟨_, List.getElem?_eq_getElem (by rw [hn1.out]; exact hlm)⟩
          obtain ⟨q', o', rfl, hat'⟩ := s1.out m r hr
          obtain ⟨z0, z1, z2⟩ := hat'.below Bt.out
          obtain ⟨wc, ewc⟩ : ∃ wb, Hid (wr.alloc (.cells #[.int .i64 r.f, .int .i64 r.j, .int .i64 r.c] 72) = wb) := ⟨_, (rfl : _ = _)⟩
          obtain ⟨gr, hgr⟩ : ∃ g, Hid (wr.heap.size = g) := ⟨_, (rfl : _ = _)⟩
          have Bxc : Hid (Below wb.heap.size wb wc) := by rw [← ewc.out]; exact Bm.out.alloc Bm.out.size _
          have Bc : Hid (Below wa.heap.size wa wc) := Bb.out.trans (Bxc.out.mono Bb.out.size)
          have R1 : Hid (Brw wc gr r.f r.j r.c) := by rw [← ewc.out, ← hgr.out]; exact Brw.new wr _ _ _
          have V2 : Hid (Brw wc gv v.f v.j v.c) := V1.out.below Bxc.out
          have hrm := List.mem_of_getElem? hr
          have hvm := List.mem_of_getElem? hv
          have hm1 : Hid (Calls Tryd.prog 44 #[rv r, rv v] wc fun e w' => e = .returned (.bool (Kc.meets r v)) ∧ Below wc.heap.size wc w') := kmeets_c r v (hrH.out r hrm) (hvH.out v hvm) wc
          have hm2 : Hid (Calls Tryd.prog 45 #[rv r, rv v] wc fun e w' => e = .returned (.bool (Kc.crossed r v)) ∧ Below wc.heap.size wc w') := kcrossed_c r v (hrH.out r hrm) (hvH.out v hvm) wc
          have hht : Hid (t.hit v r = bif tw then decide (1 < v.c) && Kc.meets r v else Kc.crossed r v) := by show _ = _; unfold Kc.To.hit; rw [htw.out]
          obtain ⟨hb, hhb⟩ : ∃ b, Hid (t.hit v r = b) := ⟨_, (rfl : _ = _)⟩
          rw [hhb.out] at hht
          have hnext : Hid (hb = false → ∀ q r, q < m + 1 → t.rd[q]? = some r → t.hit v r = false) := fun h0 q r' h1 h2 => by
            by_cases e : q = m
            · subst e; rw [hr] at h2; cases h2; rw [hhb.out]; exact h0
            · exact hbe2.out q r' (by omega) h2
          have hfin : Hid (hb = true → res = true) := fun h0 => by rw [← hres.out]; exact any_at hv (any_at hr (hhb.out.trans h0))
          generalize Kc.meets r v = b1 at hm1 hht
          generalize Kc.crossed r v = b2 at hm2 hht
          unfold rv rva at hm1 hm2
          clear hat' hr hrm hvm
          go_upto_region 7 with fail
          rw [ewc.out, hgr.out]
          clear z0 z1 z2
          obtain ⟨x0, x1, x2⟩ := X1.out.below Bc.out
          obtain ⟨y0, y1, y2⟩ := R1.out
          obtain ⟨u0, u1, u2⟩ := V2.out
          cases tw with
          | true =>
            by_cases hc1 : 1 < v.c
            · have hc1' : (1 : Int) < (v.c : Int) := by omega
              obtain rfl : hb = b1 := by rw [hht.out, decide_eq_true hc1]; rfl
              go_wp2_with fail
              refine hm1.out.mono ?_
              rintro e w1 ⟨rfl, B1⟩
              have Bn : Hid (Below wb.heap.size wb w1) := Bxc.out.trans (B1.mono Bxc.out.size)
              have Bf : Hid (Below w.heap.size w w1) := Ba.out.trans ((Bb.out.trans (Bn.out.mono Bb.out.size)).mono Ba.out.size)
              have X3 := X1.out.below (Bb.out.trans (Bn.out.mono Bb.out.size))
              clear x0 x1 x2 y0 y1 y2 u0 u1 u2 B1 hm1 hm2
              obtain ⟨x0, x1, x2⟩ := X3
              cases hb with
              | true =>
                obtain rfl : res = true := hfin.out rfl
                go_wp2
                go_ret
                exact ⟨rfl, Bf.out⟩
              | false =>
                go_wp2
                go_roundw
                case rel => exact ⟨m + 1, by omega, by go_num, Bn, by first | exact hnext.out rfl | exact hnext.out trivial⟩
                case measure => simp [intOf]; omega
            · have hc1' : decide ((1 : Int) < (v.c : Int)) = false := decide_eq_false (by omega)
              obtain rfl : hb = false := by rw [hht.out, decide_eq_false hc1]; rfl
              have Bn : Hid (Below wb.heap.size wb wc) := Bxc.out
              go_wp2
              go_roundw
              case rel => exact ⟨m + 1, by omega, by go_num, Bn, by first | exact hnext.out rfl | exact hnext.out trivial⟩
              case measure => simp [intOf]; omega
          | false =>
            obtain rfl : hb = b2 := hht.out
            go_wp2_with fail
            refine hm2.out.mono ?_
            rintro e w1 ⟨rfl, B1⟩
            have Bn : Hid (Below wb.heap.size wb w1) := Bxc.out.trans (B1.mono Bxc.out.size)
            have Bf : Hid (Below w.heap.size w w1) := Ba.out.trans ((Bb.out.trans (Bn.out.mono Bb.out.size)).mono Ba.out.size)
            have X3 := X1.out.below (Bb.out.trans (Bn.out.mono Bb.out.size))
            clear x0 x1 x2 y0 y1 y2 u0 u1 u2 B1 hm1 hm2
            obtain ⟨x0, x1, x2⟩ := X3
            cases hb with
            | true =>
              obtain rfl : res = true := hfin.out rfl
              go_wp2
              go_ret
              exact ⟨rfl, Bf.out⟩
            | false =>
              go_wp2
              go_roundw
              case rel => exact ⟨m + 1, by omega, by go_num, Bn, by first | exact hnext.out rfl | exact hnext.out trivial⟩
              case measure => simp [intOf]; omega
        · have hlm' : decide ((m : Int) < (n1 : Int)) = false := decide_eq_false (by omega)
          have hlm2 : ¬ m < n1 := hlm
          have hbef2 : Hid (∀ q v, q < k + 1 → t.wr[q]? = some v → (t.rd.any fun r => t.hit v r) = false) := fun q v' h1 h2 => by
            by_cases e : q = k
            · subst e; rw [hv] at h2; cases h2
              exact any_no fun q r h1 h2 => hbe2.out q r (by have := hn1.out; omega) h2
            · exact hbef.out q v' (by omega) h2
          go_wp2
          go_roundw
          case rel => exact ⟨k + 1, by omega, by go_num, Bt, hbef2⟩
          case measure => simp [intOf]; omega
    · have hlt' : decide ((k : Int) < (n2 : Int)) = false := decide_eq_false (by omega)
      have hlt2 : ¬ k < n2 := hlt
      obtain rfl : res = false := hres.out.symm.trans (any_no fun q r h1 h2 => hbef.out q r (by have := hn2.out; omega) h2)
      go_wp2
      go_ret
      exact ⟨rfl, Ba.out.trans (Bk.out.mono Ba.out.size)⟩
end Go.Proofs.YtedfjedmapimnaaDoor
/-
  Package check: good, Fault, Check, Acts.
-/
namespace Go.Proofs.YtedfjedmapimnaaDoor.Kc
open Go.RowKit
def touS (s : Sp.St) : To := tou s.op.toNat s.dst.toNat s.src.toNat s.jump.toNat s.count.toNat s.n.toNat
/-- is a step good for so many cells -/
def gdS (s : Sp.St) (cells : Int) : Bool := Sp.fm s && ((touS s).below cells && !(touS s).clash)
/-- the first bad step, from the i-th on, a the acts so far -/
def flt (cells : Int) : Nat → Int → List Sp.St → Int
  | _, _, [] => -1
  | i, a, s :: l => bif (i == 65536) || !gdS s cells then i else bif decide (67108864 < a + s.count) then i else flt cells (i + 1) (a + s.count) l
def hdf (p : Sp.Pg) : Bool := Sp.wi p.len 1 16384 && (Sp.wi p.cells 1 262144 && (Sp.wi p.inn 0 (wrap64 (p.cells - p.len)) && Sp.wi p.out 0 (wrap64 (p.cells - p.len))))
def chk (p : Sp.Pg) : Bool := hdf p && decide (flt p.cells 0 0 p.steps < 0)
def sumc : List Sp.St → Int
  | [] => 0
  | s :: l => s.count + sumc l
end Go.Proofs.YtedfjedmapimnaaDoor.Kc
namespace Go.Proofs.YtedfjedmapimnaaDoor
open Flo Go.RowKit
set_option maxHeartbeats 1000000 in
theorem kgood_c (s : Sp.St) (cells : Int) (al : List Addr) (w : World) (hO : Ops w) (he : Pe w al) :
    Calls Tryd.prog 22 #[sv s, .int .i64 cells] w fun e w' => e = .returned (.bool (Kc.gdS s cells)) ∧ Below w.heap.size w w' := by
  obtain ⟨g, hg⟩ : ∃ g, Hid (w.heap.size = g) := ⟨_, (rfl : _ = _)⟩
  obtain ⟨wa, ewa⟩ : ∃ wa, Hid (w.alloc (.cells #[.int .i64 s.op, .int .i64 s.dst, .int .i64 s.src, .int .i64 s.jump, .int .i64 s.count, .int .i64 s.n, .int .i64 s.k] 39) = wa) := ⟨_, (rfl : _ = _)⟩
  have Ba : Hid (Below w.heap.size w wa) := by rw [← ewa.out]; exact (Below.refl _ _).alloc (Nat.le_refl _) _
  have X1 : Hid (Bst wa g s.op s.dst s.src s.jump s.count s.n s.k) := by show Bst _ _ _ _ _ _ _ _ _; rw [← ewa.out, ← hg.out]; exact Bst.new w _ _ _ _ _ _ _
  have hf : Hid (Calls Tryd.prog 24 #[sv s] wa fun e w' => e = .returned (fev al (Sp.fm s)) ∧ Below wa.heap.size wa w') := sform_c s al wa (hO.below (Ba.out.mono (Nat.le_refl _))) (he.below Ba.out)
  cases hfm : Sp.fm s with
  | false =>
    have hz : Hid (Kc.gdS s cells = false) := by show _ = _; unfold Kc.gdS; rw [hfm]; rfl
    rw [hz.out]
    rw [hfm] at hf
    have e1 : fev al false = ek al 8 := rfl
    rw [e1] at hf
    have hq := nnil_c al 8
    have hgd := guard_c al 8
    unfold sv sva at *
    clear hO he hz hfm e1
    go_enter Tryd.func22, Tryd.ntmps22
    go_upto_region 1 with fail
    rw [ewa.out, hg.out]
    obtain ⟨y0, y1, y2, y3, y4, y5, y6⟩ := X1.out
    go_wp2_with fail
    refine hf.out.mono ?_
    rintro e w1 ⟨rfl, B1⟩
    have hB : Hid (Below w.heap.size w w1) := Ba.out.trans (B1.mono Ba.out.size)
    clear y0 y1 y2 y3 y4 y5 y6 B1 hf
    go_wp2
    go_ret
    exact ⟨rfl, hB.out⟩
  | true =>
    obtain ⟨o, d, a, j, c, n, h1, h2, h3, h4, h5, h6, hFo, hn⟩ := fo_of hfm
    obtain ⟨op, dst, src, jump, count, nn, k⟩ := s
    simp only at h1 h2 h3 h4 h5 h6
    subst h1 h2 h3 h4 h5 h6
    have hz : Hid (Kc.gdS ⟨o, d, a, j, c, n, k⟩ cells = ((Kc.tou o d a j c n).below cells && !(Kc.tou o d a j c n).clash)) := by show _ = _; unfold Kc.gdS; rw [hfm, Bool.true_and]; rfl
    rw [hz.out]
    rw [hfm] at hf
    have e1 : fev al true = .nilIface := rfl
    rw [e1] at hf
    have ht : Hid (∀ W, Calls Tryd.prog 25 #[sv ⟨o, d, a, j, c, n, k⟩] W fun e w' => TcE (Kc.tou o d a j c n) W e w') := fun W => ktouch_c hFo k W
    obtain ⟨hr, hv⟩ := rok_of hFo
    obtain ⟨hl1, hl2⟩ := len_tou hFo
    have hrH : Hid (∀ r ∈ (Kc.tou o d a j c n).rd, Rok r) := hr
    have hvH : Hid (∀ r ∈ (Kc.tou o d a j c n).wr, Rok r) := hv
    generalize Kc.tou o d a j c n = t at *
    obtain ⟨p1, hp1⟩ : ∃ p, Hid (t.below cells = p) := ⟨_, (rfl : _ = _)⟩
    obtain ⟨p2, hp2⟩ : ∃ p, Hid (t.clash = p) := ⟨_, (rfl : _ = _)⟩
    rw [hp1.out, hp2.out]
    unfold sv sva at *
    clear hO he hz hfm e1 hn hFo hr hv
    go_enter Tryd.func22, Tryd.ntmps22
    go_upto_region 1 with fail
    rw [ewa.out, hg.out]
    obtain ⟨y0, y1, y2, y3, y4, y5, y6⟩ := X1.out
    go_wp2_with fail
    refine hf.out.mono ?_
    rintro e w1 ⟨rfl, B1⟩
    have hB1 : Hid (Below w.heap.size w w1) := Ba.out.trans (B1.mono Ba.out.size)
    have X2 := X1.out.below B1
    clear y0 y1 y2 y3 y4 y5 y6 B1 hf
    obtain ⟨y0, y1, y2, y3, y4, y5, y6⟩ := X2
    go_wp2_with fail
    refine (ht.out w1).mono ?_
    rintro e w2 ⟨v1, v2, rfl, ⟨b1, m1, rfl, R1⟩, ⟨b2, m2, rfl, R2⟩, B2⟩
    obtain ⟨n1, hn1⟩ : ∃ n, Hid (t.rd.length = n) := ⟨_, (rfl : _ = _)⟩
    obtain ⟨n2, hn2⟩ : ∃ n, Hid (t.wr.length = n) := ⟨_, (rfl : _ = _)⟩
    rw [hn1.out, hn2.out]
    clear y0 y1 y2 y3 y4 y5 y6
    have hB2 : Hid (Below w.heap.size w w2) := hB1.out.trans (B2.mono hB1.out.size)
    obtain ⟨wb, ewb⟩ : ∃ wb, Hid (w2.alloc (.cells #[.slice b1 n1 m1, .slice b2 n2 m2, .bool t.wh] 55) = wb) := ⟨_, (rfl : _ = _)⟩
    obtain ⟨G, hG⟩ : ∃ g, Hid (w2.heap.size = g) := ⟨_, (rfl : _ = _)⟩
    have Bb' : Below w2.heap.size w2 wb := by rw [← ewb.out]; exact (Below.refl _ _).alloc (Nat.le_refl _) _
    have hBb : Hid (Below w.heap.size w wb) := hB2.out.trans (Bb'.mono hB2.out.size)
    have T1 : Hid (Bto wb G (.slice b1 n1 m1) (.slice b2 n2 m2) t.wh) := by rw [← ewb.out, ← hG.out]; constructor <;> simp [go_sem]
    have R1b : Hid (RdR wb (.slice b1 n1 m1) t.rd) := ⟨b1, m1, by rw [hn1.out], R1.below Bb'⟩
    have R2b : Hid (RdR wb (.slice b2 n2 m2) t.wr) := ⟨b2, m2, by rw [hn2.out], R2.below Bb'⟩
    have hbl : Hid (Calls Tryd.prog 32 #[.agg #[.slice b1 n1 m1, .slice b2 n2 m2, .bool t.wh], .int .i64 cells] wb fun e w' => e = .returned (.bool p1) ∧ Below wb.heap.size wb w') := by rw [← hp1.out]; exact kbelow_c t _ _ cells wb R1b.out R2b.out hrH.out hvH.out hl1 hl2
    have hcl : Hid (∀ W, Below wb.heap.size wb W → Calls Tryd.prog 33 #[.agg #[.slice b1 n1 m1, .slice b2 n2 m2, .bool t.wh]] W fun e w' => e = .returned (.bool p2) ∧ Below W.heap.size W w') := fun W hW => by rw [← hp2.out]; exact kclash_c t _ _ W (R1b.out.below hW) (R2b.out.below hW) hrH.out hvH.out hl1 hl2
    generalize t.wh = tw at *
    clear R1 R2 B2 Bb' ht
    go_upto_region 4 with fail
    rw [ewb.out, hG.out]
    obtain ⟨x0, x1, x2⟩ := T1.out
    go_wp2_with fail
    refine hbl.out.mono ?_
    rintro e w3 ⟨rfl, B3⟩
    have hB3 : Hid (Below w.heap.size w w3) := hBb.out.trans (B3.mono hBb.out.size)
    have T2 := T1.out.below B3
    have B3H : Hid (Below wb.heap.size wb w3) := B3
    clear x0 x1 x2 B3 hbl
    obtain ⟨x0, x1, x2⟩ := T2
    cases p1 with
    | false =>
      go_wp2
      go_ret
      exact ⟨rfl, hB3.out⟩
    | true =>
      go_wp2_with fail
      refine (hcl.out w3 B3H.out).mono ?_
      rintro e w4 ⟨rfl, B4⟩
      have hB4 : Hid (Below w.heap.size w w4) := hB3.out.trans (B4.mono hB3.out.size)
      clear x0 x1 x2 B4
      go_wp2
      go_ret
      exact ⟨rfl, hB4.out⟩
theorem flt_lt (cells : Int) : ∀ (l : List Sp.St) (i : Nat) (a : Int), -1 ≤ Kc.flt cells i a l ∧ Kc.flt cells i a l < i + l.length ∨ Kc.flt cells i a l = -1
  | [], i, a => .inr rfl
  | s :: l, i, a => by
    unfold Kc.flt
    cases (i == 65536) || !Kc.gdS s cells with
    | true => left; simp; omega
    | false =>
      simp only [cond_false]
      cases decide (67108864 < a + s.count) with
      | true => left; simp; omega
      | false =>
        simp only [cond_false]
        rcases flt_lt cells l (i + 1) (a + s.count) with h | h
        · left; simp only [List.length_cons]; omega
        · right; exact h
theorem gd_fm {s : Sp.St} {cells : Int} (h : Kc.gdS s cells = true) : 1 ≤ s.count ∧ s.count ≤ 262144 := by
  unfold Kc.gdS at h
  rw [Bool.and_eq_true] at h
  obtain ⟨o, d, a, j, c, n, h1, h2, h3, h4, h5, h6, hFo, hn⟩ := fo_of h.1
  have := hFo.c1
  have := hFo.c2
  omega
set_option maxHeartbeats 2000000 in
theorem kfault_c (p : Sp.Pg) (ao : Option Addr) (m cap : Nat) (al : List Addr) (w : World) (hs : Ss w ao p.steps) (hm : m = p.steps.length) (hb : m ≤ 140737488355328) (hO : Ops w) (he : Pe w al) :
    Calls Tryd.prog 13 #[pv p (.slice ao m cap)] w fun e w' => e = .returned (.int .i64 (Kc.flt p.cells 0 0 p.steps)) ∧ Below w.heap.size w w' := by
  obtain ⟨g, hg⟩ : ∃ g, Hid (w.heap.size = g) := ⟨_, (rfl : _ = _)⟩
  obtain ⟨wa, ewa⟩ : ∃ wa, Hid (w.alloc (.cells #[.int .i64 p.len, .int .i64 p.cells, .int .i64 p.inn, .int .i64 p.out, .slice ao m cap] 24) = wa) := ⟨_, (rfl : _ = _)⟩
  have Ba : Hid (Below w.heap.size w wa) := by rw [← ewa.out]; exact (Below.refl _ _).alloc (Nat.le_refl _) _
  have X1 : Hid (Bpg wa g p (.slice ao m cap)) := by show Bpg _ _ _ _; rw [← ewa.out, ← hg.out]; exact Bpg.new w p _
  have sH : Hid (Ss wa ao p.steps) := hs.below Ba.out
  have hOH : Hid (Ops wa) := hO.below (Ba.out.mono (Nat.le_refl _))
  have heH : Hid (Pe wa al) := he.below Ba.out
  have hmH : Hid (m = p.steps.length) := hm
  obtain ⟨R, hR⟩ : ∃ b, Hid (Kc.flt p.cells 0 0 p.steps = b) := ⟨_, (rfl : _ = _)⟩
  rw [hR.out]
  clear hs hO he hm
  unfold pv
  go_enter Tryd.func13, Tryd.ntmps13
  go_upto_region 1 with fail
  rw [ewa.out, hg.out]
  obtain ⟨x0, x1, x2, x3, x4⟩ := X1.out
  go_wp2
  clear x0 x1 x2 x3 x4
  go_loopw [3, 9] (fun a i wr => ∃ (k : Nat) (A : Int), k ≤ m ∧ i = .int .i64 k ∧ a = .int .i64 A ∧ 0 ≤ A ∧ A ≤ 67108864 ∧ Hid (Below wa.heap.size wa wr) ∧ Hid (k ≤ 65536 ∧ R = Kc.flt p.cells k A (p.steps.drop k))) (fun _ i _ => m - (intOf i).toNat)
  case atStart => exact ⟨0, 0, Nat.zero_le _, rfl, rfl, by decide, by decide, Below.refl _ _, by decide, by rw [List.drop_zero]; exact hR.out.symm⟩
  case round =>
    obtain ⟨k, A, hk, rfl, rfl, hA0, hA1, Bk, hRk⟩ := hrel
    by_cases hlt : k < m
    · have hlt' : (k : Int) < (m : Int) := by omega
      obtain ⟨s, hs⟩ : ∃ s, p.steps[k]? = some s := ⟨_, List.getElem?_eq_getElem (by rw [← hmH.out]; exact hlt)⟩
      obtain ⟨q, o, rfl, hat⟩ := sH.out k s hs
      obtain ⟨y0, y1, y2, y3, y4, y5, y6⟩ := hat.below Bk.out
      have hdr : Hid (p.steps.drop k = s :: p.steps.drop (k + 1)) := by show _ = _; rw [List.drop_eq_getElem_cons (by rw [← hmH.out]; exact hlt)]; rw [List.getElem?_eq_getElem (by rw [← hmH.out]; exact hlt)] at hs; cases hs; rfl
      have hRs : Hid (R = bif (k == 65536) || !Kc.gdS s p.cells then (k : Int) else bif decide (67108864 < A + s.count) then (k : Int) else Kc.flt p.cells (k + 1) (A + s.count) (p.steps.drop (k + 1))) := by
        show _ = _; rw [hRk.out.2, hdr.out]; rfl
      obtain ⟨wb, ewb⟩ : ∃ wb, Hid (wr.alloc (.cells #[.int .i64 s.op, .int .i64 s.dst, .int .i64 s.src, .int .i64 s.jump, .int .i64 s.count, .int .i64 s.n, .int .i64 s.k] 39) = wb) := ⟨_, (rfl : _ = _)⟩
      obtain ⟨G, hG⟩ : ∃ g, Hid (wr.heap.size = g) := ⟨_, (rfl : _ = _)⟩
      have Bb : Hid (Below wa.heap.size wa wb) := by rw [← ewb.out]; exact Bk.out.alloc Bk.out.size _
      have S1 : Hid (Bst wb G s.op s.dst s.src s.jump s.count s.n s.k) := by show Bst _ _ _ _ _ _ _ _ _; rw [← ewb.out, ← hG.out]; exact Bst.new wr _ _ _ _ _ _ _
      have hgd : Hid (Calls Tryd.prog 22 #[sv s, .int .i64 p.cells] wb fun e w' => e = .returned (.bool (Kc.gdS s p.cells)) ∧ Below wb.heap.size wb w') := kgood_c s p.cells al wb (hOH.out.below (Bb.out.mono (Nat.le_refl _))) (heH.out.below Bb.out)
      obtain ⟨gb, hgb⟩ : ∃ b, Hid (Kc.gdS s p.cells = b) := ⟨_, (rfl : _ = _)⟩
      rw [hgb.out] at hgd hRs
      unfold sv sva at hgd
      clear hat hs hdr
      go_upto_region 5 with fail
      rw [ewb.out, hG.out]
      clear y0 y1 y2 y3 y4 y5 y6
      obtain ⟨x0, x1, x2, x3, x4⟩ := X1.out.below Bb.out
      obtain ⟨y0, y1, y2, y3, y4, y5, y6⟩ := S1.out
      by_cases h6 : k = 65536
      · obtain rfl : R = (k : Int) := by rw [hRs.out, beq_iff_eq.2 h6]; rfl
        have hB : Hid (Below w.heap.size w wb) := Ba.out.trans (Bb.out.mono Ba.out.size)
        have q1 : ((k : Int) == 65536) = true := by rw [h6]; rfl
        clear h6 hRs
        go_wp2
        go_ret
        exact ⟨rfl, hB.out⟩
      · have q1 : ((k : Int) == 65536) = false := by rw [beq_eq_false_iff_ne]; omega
        have h6' : (k == 65536) = false := beq_eq_false_iff_ne.2 h6
        go_wp2_with fail
        refine hgd.out.mono ?_
        rintro e w1 ⟨rfl, B1⟩
        have hB1 : Hid (Below wa.heap.size wa w1) := Bb.out.trans (B1.mono Bb.out.size)
        have S2 := S1.out.below B1
        clear x0 x1 x2 x3 x4 y0 y1 y2 y3 y4 y5 y6 B1 hgd
        obtain ⟨y0, y1, y2, y3, y4, y5, y6⟩ := S2
        cases gb with
        | false =>
          obtain rfl : R = (k : Int) := by rw [hRs.out, h6']; rfl
          clear hRs
          have hB : Hid (Below w.heap.size w w1) := Ba.out.trans (hB1.out.mono Ba.out.size)
          go_wp2
          go_ret
          exact ⟨rfl, hB.out⟩
        | true =>
          have hcb := gd_fm hgb.out
          obtain ⟨c, hc⟩ : ∃ c, Hid (s.count = c) := ⟨_, (rfl : _ = _)⟩
          rw [hc.out] at hcb hRs y4
          obtain ⟨A2, hA2⟩ : ∃ z, Hid (A + c = z) := ⟨_, (rfl : _ = _)⟩
          have e1 : wrap64 (A + c) = A2 := by rw [← hA2.out]; unfold wrap64; omega
          have hk6 : Hid (k + 1 ≤ 65536) := by have := hRk.out.1; show _ ≤ _; omega
          have hA3 : 0 ≤ A2 := by rw [← hA2.out]; omega
          rw [hA2.out, h6'] at hRs
          clear hcb
          by_cases hgt : 67108864 < A2
          · obtain rfl : R = (k : Int) := by rw [hRs.out, decide_eq_true hgt]; rfl
            clear hRs
            have hB : Hid (Below w.heap.size w w1) := Ba.out.trans (hB1.out.mono Ba.out.size)
            go_wp2
            go_ret
            exact ⟨rfl, hB.out⟩
          · have q2 : decide ((67108864 : Int) < A2) = false := decide_eq_false hgt
            have hRn : Hid (R = Kc.flt p.cells (k + 1) A2 (p.steps.drop (k + 1))) := by show _ = _; rw [hRs.out, q2]; rfl
            have hA4 : A2 ≤ 67108864 := by omega
            clear hRs hgt
            go_upto_region 10 with fail
            rw [e1]
            clear e1
            go_wp2
            go_roundw
            case rel => exact ⟨k + 1, A2, by omega, by go_num, rfl, hA3, hA4, hB1, hk6.out, hRn.out⟩
            case measure => simp [intOf]; omega
    · have hlt' : decide ((k : Int) < (m : Int)) = false := decide_eq_false (by omega)
      have hlt2 : ¬ k < m := hlt
      obtain rfl : R = -1 := by rw [hRk.out.2, List.drop_eq_nil_of_le (by have := hmH.out; omega)]; rfl
      go_wp2
      go_ret
      exact ⟨rfl, Ba.out.trans (Bk.out.mono Ba.out.size)⟩
end Go.Proofs.YtedfjedmapimnaaDoor
