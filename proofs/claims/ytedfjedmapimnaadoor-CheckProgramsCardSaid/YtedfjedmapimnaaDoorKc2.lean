/-
  Package check: what a step touches, as rows in memory.
-/
import Derived.Test.YtedfjedmapimnaaDoorKc1
import Derived.Test.YtedfjedmapimnaaDoorSl1
namespace Go.Proofs.YtedfjedmapimnaaDoor
open Flo Go.RowKit
/-- a row's cells, from p on; a list of rows that can be read -/
structure RAt (w : World) (q p : Nat) (r : Kc.Rw) : Prop where
  c0 : w.cell? ⟨q, p, none⟩ = some (.int .i64 r.f)
  c1 : w.cell? ⟨q, p + 1, none⟩ = some (.int .i64 r.j)
  c2 : w.cell? ⟨q, p + 2, none⟩ = some (.int .i64 r.c)
theorem RAt.below {w w' : World} {q p : Nat} {r : Kc.Rw} (h : RAt w q p r) (hb : Below w.heap.size w w') : RAt w' q p r :=
  ⟨(hb.cell (cell_lt h.c0)).trans h.c0, (hb.cell (cell_lt h.c1)).trans h.c1, (hb.cell (cell_lt h.c2)).trans h.c2⟩
def Rs (w : World) (ao : Option Addr) (rs : List Kc.Rw) : Prop := ∀ i r, rs[i]? = some r → ∃ q o, ao = some ⟨q, o, none⟩ ∧ RAt w q (o + i * 3) r
theorem Rs.below {w w' : World} {ao : Option Addr} {rs : List Kc.Rw} (h : Rs w ao rs) (hb : Below w.heap.size w w') : Rs w' ao rs := fun i r hi => by
  obtain ⟨q, o, e, hs⟩ := h i r hi
  exact ⟨q, o, e, hs.below hb⟩
def RdR (w : World) (v : Value) (rs : List Kc.Rw) : Prop := ∃ ao cap, v = .slice ao rs.length cap ∧ Rs w ao rs
theorem RdR.below {w w' : World} {v : Value} {rs : List Kc.Rw} (h : RdR w v rs) (hb : Below w.heap.size w w') : RdR w' v rs := by
  obtain ⟨ao, cap, e, hr⟩ := h
  exact ⟨ao, cap, e, hr.below hb⟩
theorem RdR.nil (w : World) : RdR w (.slice none 0 0) [] := ⟨none, 0, rfl, fun i r hi => by simp at hi⟩
theorem RdR.one {w : World} {g c : Nat} {r : Kc.Rw} (h : Brw w g r.f r.j r.c) : RdR w (.slice (some ⟨g, 0, none⟩) 1 c) [r] := ⟨_, _, rfl, fun i x hi => by
  match i, hi with
  | 0, hi => cases hi; exact ⟨g, 0, rfl, ⟨h.c0, h.c1, h.c2⟩⟩
  | n + 1, hi => simp at hi⟩
/-- what touchOf answers -/
def TcE (t : Kc.To) (w : World) (e : Ending) (w' : World) : Prop := ∃ v1 v2, e = .returned (.agg #[v1, v2, .bool t.wh]) ∧ RdR w' v1 t.rd ∧ RdR w' v2 t.wr ∧ Below w.heap.size w w'
theorem al3 {w : World} {a b c : Array Value} {s t u : TypeId} : Below w.heap.size w (((w.alloc (.cells a s)).alloc (.cells b t)).alloc (.cells c u)) :=
  have h1 := (Below.refl w.heap.size w).alloc (Nat.le_refl _) (.cells a s)
  have h2 := h1.alloc h1.size (.cells b t)
  h2.alloc h2.size _
theorem al4 {w : World} {a b c d : Array Value} {s t u v : TypeId} : Below w.heap.size w ((((w.alloc (.cells a s)).alloc (.cells b t)).alloc (.cells c u)).alloc (.cells d v)) := al3.alloc al3.size _
theorem al5 {w : World} {a b c d e : Array Value} {s t u v x : TypeId} : Below w.heap.size w (((((w.alloc (.cells a s)).alloc (.cells b t)).alloc (.cells c u)).alloc (.cells d v)).alloc (.cells e x)) := al4.alloc al4.size _
set_option maxHeartbeats 1000000 in
theorem ktouch1_c (d s j c n : Nat) (k : Int) (w : World) :
    Calls Tryd.prog 25 #[sv ⟨1, d, s, j, c, n, k⟩] w fun e w' => TcE (Kc.tou 1 d s j c n) w e w' := by
  unfold sv sva
  go_enter Tryd.func25, Tryd.ntmps25
  go_wp2
  refine bodyPost_ret (v := .agg #[.slice (some ⟨w.heap.size + 1 + 1 + 1, 0, none⟩) 1 1, .slice (some ⟨w.heap.size + 1 + 1, 0, none⟩) 1 1, .bool false]) (by simp [results, Tryd.results25, go_sem]) rfl ?_
  refine ⟨_, _, rfl, RdR.one ⟨by simp [go_sem], by simp [go_sem], by simp [go_sem]⟩, RdR.one ⟨by simp [go_sem], by simp [go_sem], by simp [go_sem]⟩, ?_⟩
  · exact al4
set_option maxHeartbeats 1000000 in
theorem ktouch2_c (d s j c n : Nat) (k : Int) (w : World) :
    Calls Tryd.prog 25 #[sv ⟨2, d, s, j, c, n, k⟩] w fun e w' => TcE (Kc.tou 2 d s j c n) w e w' := by
  unfold sv sva
  go_enter Tryd.func25, Tryd.ntmps25
  go_wp2
  refine bodyPost_ret (v := .agg #[.slice (some ⟨w.heap.size + 1 + 1 + 1, 0, none⟩) 1 1, .slice (some ⟨w.heap.size + 1 + 1 + 1 + 1, 0, none⟩) 1 1, .bool false]) (by simp [results, Tryd.results25, go_sem]) rfl ?_
  refine ⟨_, _, rfl, RdR.one ⟨by simp [go_sem], by simp [go_sem], by simp [go_sem]⟩, RdR.one ⟨by simp [go_sem], by simp [go_sem], by simp [go_sem]⟩, ?_⟩
  · exact al5
set_option maxHeartbeats 1000000 in
theorem ktouch3_c (d s j c n : Nat) (k : Int) (w : World) :
    Calls Tryd.prog 25 #[sv ⟨3, d, s, j, c, n, k⟩] w fun e w' => TcE (Kc.tou 3 d s j c n) w e w' := by
  unfold sv sva
  go_enter Tryd.func25, Tryd.ntmps25
  go_wp2
  refine bodyPost_ret (v := .agg #[.slice none 0 0, .slice (some ⟨w.heap.size + 1 + 1, 0, none⟩) 1 1, .bool false]) (by simp [results, Tryd.results25, go_sem]) rfl ?_
  refine ⟨_, _, rfl, RdR.nil _, RdR.one ⟨by simp [go_sem], by simp [go_sem], by simp [go_sem]⟩, ?_⟩
  · exact al3
set_option maxHeartbeats 1000000 in
theorem ktouch8_c (d s j c n : Nat) (k : Int) (w : World) :
    Calls Tryd.prog 25 #[sv ⟨8, d, s, j, c, n, k⟩] w fun e w' => TcE (Kc.tou 8 d s j c n) w e w' := by
  unfold sv sva
  go_enter Tryd.func25, Tryd.ntmps25
  go_wp2
  refine bodyPost_ret (v := .agg #[.slice none 0 0, .slice (some ⟨w.heap.size + 1 + 1, 0, none⟩) 1 1, .bool false]) (by simp [results, Tryd.results25, go_sem]) rfl ?_
  refine ⟨_, _, rfl, RdR.nil _, RdR.one ⟨by simp [go_sem], by simp [go_sem], by simp [go_sem]⟩, ?_⟩
  · exact al3
set_option maxHeartbeats 1000000 in
theorem ktouch6_c (d s j c n : Nat) (k : Int) (w : World) :
    Calls Tryd.prog 25 #[sv ⟨6, d, s, j, c, n, k⟩] w fun e w' => TcE (Kc.tou 6 d s j c n) w e w' := by
  unfold sv sva
  go_enter Tryd.func25, Tryd.ntmps25
  go_wp2
  refine bodyPost_ret (v := .agg #[.slice (some ⟨w.heap.size + 1 + 1 + 1, 0, none⟩) 1 1, .slice (some ⟨w.heap.size + 1 + 1, 0, none⟩) 1 1, .bool true]) (by simp [results, Tryd.results25, go_sem]) rfl ?_
  refine ⟨_, _, rfl, RdR.one ⟨by simp [go_sem], by simp [go_sem], by simp [go_sem]⟩, RdR.one ⟨by simp [go_sem], by simp [go_sem], by simp [go_sem]⟩, ?_⟩
  · exact al4
set_option maxHeartbeats 1000000 in
theorem ktouch4_c (d s j c n : Nat) (k : Int) (w : World) :
    Calls Tryd.prog 25 #[sv ⟨4, d, s, j, c, n, k⟩] w fun e w' => TcE (Kc.tou 4 d s j c n) w e w' := by
  unfold sv sva
  go_enter Tryd.func25, Tryd.ntmps25
  go_wp2
  refine bodyPost_ret (v := .agg #[.slice (some ⟨w.heap.size + 1 + 1, 0, none⟩) 1 1, .slice (some ⟨w.heap.size + 1 + 1, 0, none⟩) 1 1, .bool false]) (by simp [results, Tryd.results25, go_sem]) rfl ?_
  refine ⟨_, _, rfl, RdR.one ⟨by simp [go_sem], by simp [go_sem], by simp [go_sem]⟩, RdR.one ⟨by simp [go_sem], by simp [go_sem], by simp [go_sem]⟩, ?_⟩
  · exact al3
set_option maxHeartbeats 1000000 in
theorem ktouch7_c (d s j c n : Nat) (k : Int) (w : World) :
    Calls Tryd.prog 25 #[sv ⟨7, d, s, j, c, n, k⟩] w fun e w' => TcE (Kc.tou 7 d s j c n) w e w' := by
  unfold sv sva
  go_enter Tryd.func25, Tryd.ntmps25
  go_wp2
  refine bodyPost_ret (v := .agg #[.slice (some ⟨w.heap.size + 1 + 1, 0, none⟩) 1 1, .slice (some ⟨w.heap.size + 1 + 1, 0, none⟩) 1 1, .bool false]) (by simp [results, Tryd.results25, go_sem]) rfl ?_
  refine ⟨_, _, rfl, RdR.one ⟨by simp [go_sem], by simp [go_sem], by simp [go_sem]⟩, RdR.one ⟨by simp [go_sem], by simp [go_sem], by simp [go_sem]⟩, ?_⟩
  · exact al3
set_option maxHeartbeats 1000000 in
theorem ktouch10_c (d s j c n : Nat) (k : Int) (w : World) :
    Calls Tryd.prog 25 #[sv ⟨10, d, s, j, c, n, k⟩] w fun e w' => TcE (Kc.tou 10 d s j c n) w e w' := by
  unfold sv sva
  go_enter Tryd.func25, Tryd.ntmps25
  go_wp2
  refine bodyPost_ret (v := .agg #[.slice (some ⟨w.heap.size + 1 + 1, 0, none⟩) 1 1, .slice (some ⟨w.heap.size + 1 + 1, 0, none⟩) 1 1, .bool false]) (by simp [results, Tryd.results25, go_sem]) rfl ?_
  refine ⟨_, _, rfl, RdR.one ⟨by simp [go_sem], by simp [go_sem], by simp [go_sem]⟩, RdR.one ⟨by simp [go_sem], by simp [go_sem], by simp [go_sem]⟩, ?_⟩
  · exact al3
set_option maxHeartbeats 1000000 in
theorem ktouch11_c (d s j c n : Nat) (k : Int) (w : World) :
    Calls Tryd.prog 25 #[sv ⟨11, d, s, j, c, n, k⟩] w fun e w' => TcE (Kc.tou 11 d s j c n) w e w' := by
  unfold sv sva
  go_enter Tryd.func25, Tryd.ntmps25
  go_wp2
  refine bodyPost_ret (v := .agg #[.slice (some ⟨w.heap.size + 1 + 1, 0, none⟩) 1 1, .slice (some ⟨w.heap.size + 1 + 1, 0, none⟩) 1 1, .bool false]) (by simp [results, Tryd.results25, go_sem]) rfl ?_
  refine ⟨_, _, rfl, RdR.one ⟨by simp [go_sem], by simp [go_sem], by simp [go_sem]⟩, RdR.one ⟨by simp [go_sem], by simp [go_sem], by simp [go_sem]⟩, ?_⟩
  · exact al3
end Go.Proofs.YtedfjedmapimnaaDoor
