/-
  Package steps: Same.
-/
import Derived.Test.YtmlfichdfeblpaaDoorSp4
import Derived.Deep.RegionLaw
namespace Go.Proofs.YtmlfichdfeblpaaDoor
open Flo Go.RowKit
theorem step_skip {c : Bool} {A B : Prop} (h : c = false) (hB : B) : if c = true then A else B := by subst h; simpa
theorem step_do {c : Bool} {A B : Prop} (h : c = true) (hA : A) : if c = true then A else B := by subst h; simpa
/-- a program at a block -/
structure Bpg (w : World) (g : Nat) (p : Sp.Pg) (v : Value) : Prop where
  c0 : w.cell? ⟨g, 0, none⟩ = some (.int .i64 p.len)
  c1 : w.cell? ⟨g, 1, none⟩ = some (.int .i64 p.cells)
  c2 : w.cell? ⟨g, 2, none⟩ = some (.int .i64 p.inn)
  c3 : w.cell? ⟨g, 3, none⟩ = some (.int .i64 p.out)
  c4 : w.cell? ⟨g, 4, none⟩ = some (v)
theorem Bpg.new (w : World) (p : Sp.Pg) (v : Value) : Bpg (w.alloc (.cells #[.int .i64 p.len, .int .i64 p.cells, .int .i64 p.inn, .int .i64 p.out, v] 26)) w.heap.size p v := ⟨by simp, by simp, by simp, by simp, by simp⟩
theorem Bpg.below {w w' : World} {g : Nat} {p : Sp.Pg} {v : Value} (h : Bpg w g p v) (hb : Below w.heap.size w w') : Bpg w' g p v := ⟨(hb.cell (cell_lt h.c0)).trans h.c0, (hb.cell (cell_lt h.c1)).trans h.c1, (hb.cell (cell_lt h.c2)).trans h.c2, (hb.cell (cell_lt h.c3)).trans h.c3, (hb.cell (cell_lt h.c4)).trans h.c4⟩
def hdeq (a b : Sp.Pg) : Bool := (a.len == b.len) && ((a.cells == b.cells) && ((a.inn == b.inn) && (a.out == b.out)))
theorem hdeq_iff {a b : Sp.Pg} : hdeq a b = true ↔ Sp.hd a = Sp.hd b := by simp [hdeq, Sp.hd]
theorem eqH (d : Nat) (a b : Sp.Pg) (w : World) : (Op.equalIn (d + 1 + 1) 63 (na (Sp.hd a)) (na (Sp.hd b))).run Tryd.prog w = .ok (hdeq a b) w := by
  unfold na Sp.hd hdeq
  simp only [List.map_cons, List.map_nil]
  rw [Op.equalIn]
  simp [go_sem]
  rw [show List.range' 0 4 = [0, 1, 2, 3] from rfl]
  simp [go_sem]
  repeat' split
  all_goals simp_all
theorem run_eqH (a b : Sp.Pg) (w : World) : (binOp .eql 63 (na (Sp.hd a)) (na (Sp.hd b))).run Tryd.prog w = .ok (.bool (hdeq a b)) w := by
  have e : binOp .eql 63 (na (Sp.hd a)) (na (Sp.hd b)) = (do pure (.bool (← Op.equalIn (9998 + 1 + 1) 63 (na (Sp.hd a)) (na (Sp.hd b))))) := by rfl
  rw [e]
  simp [eqH 9998 a b _, go_sem]
def pgeq (a b : Sp.Pg) : Bool := hdeq a b && sseq a.steps b.steps
theorem pgeq_iff {a b : Sp.Pg} : pgeq a b = true ↔ a = b := by
  obtain ⟨a1, a2, a3, a4, a5⟩ := a
  obtain ⟨b1, b2, b3, b4, b5⟩ := b
  simp [pgeq, hdeq, sseq_iff, and_assoc]
set_option maxHeartbeats 4000000 in
set_option maxRecDepth 100000 in
theorem ssame_c (a b : Sp.Pg) (ao bo : Option Addr) (n m c d : Nat) (w : World) (ha : Ss w ao a.steps) (hb : Ss w bo b.steps) (hn : n = a.steps.length) (hm : m = b.steps.length) (hnb : n ≤ 140737488355328) :
    Calls Tryd.prog 11 #[pv a (.slice ao n c), pv b (.slice bo m d)] w fun e w' => e = .returned (.bool (pgeq a b)) ∧ Below w.heap.size w w' := by
  obtain ⟨wa, ewa⟩ : ∃ wa, Hid ((w.alloc (.cells #[.int .i64 a.len, .int .i64 a.cells, .int .i64 a.inn, .int .i64 a.out, .slice ao n c] 26)).alloc (.cells #[.int .i64 b.len, .int .i64 b.cells, .int .i64 b.inn, .int .i64 b.out, .slice bo m d] 26) = wa) := ⟨_, (rfl : _ = _)⟩
  have Ba : Hid (Below w.heap.size w wa) := by rw [← ewa.out]; exact ((Below.refl _ _).alloc (Nat.le_refl _) _).alloc (by simp) _
  have X1 : Hid (Bpg wa w.heap.size a (.slice ao n c)) := by rw [← ewa.out]; exact (Bpg.new w a (.slice ao n c)).below ((Below.refl _ _).alloc (Nat.le_refl _) _)
  have X2 : Hid (Bpg wa (w.heap.size + 1) b (.slice bo m d)) := by
    show Bpg _ _ _ _
    rw [← ewa.out]
    have := Bpg.new (w.alloc (.cells #[.int .i64 a.len, .int .i64 a.cells, .int .i64 a.inn, .int .i64 a.out, .slice ao n c] 26)) b (.slice bo m d)
    simpa using this
  have hA : Hid (∀ W, Below wa.heap.size wa W → Calls Tryd.prog 23 #[pv a (.slice ao n c)] W fun e w' => e = .returned (na (Sp.hd a)) ∧ Below wa.heap.size wa w') := fun W hW => (shead_c a ao n c W).mono fun e w' h => ⟨h.1, hW.trans (h.2.mono hW.size)⟩
  have hBB : Hid (∀ W, Below wa.heap.size wa W → Calls Tryd.prog 23 #[pv b (.slice bo m d)] W fun e w' => e = .returned (na (Sp.hd b)) ∧ Below wa.heap.size wa w') := fun W hW => (shead_c b bo m d W).mono fun e w' h => ⟨h.1, hW.trans (h.2.mono hW.size)⟩
  have hE : Hid (∀ W, Below wa.heap.size wa W → Calls Tryd.prog 28 #[.slice ao n c, .slice bo m d] W fun e w' => e = .returned (.bool (sseq a.steps b.steps)) ∧ Below wa.heap.size wa w') := fun W hW =>
    (sequal_c ao bo n m c d a.steps b.steps W ((ha.below (Ba.out.mono (Nat.le_refl _))).below hW) ((hb.below (Ba.out.mono (Nat.le_refl _))).below hW) hn hm hnb).mono fun e w' h => ⟨h.1, hW.trans (h.2.mono hW.size)⟩
  have hq : ∀ W : World, (binOp .eql 63 (na (Sp.hd a)) (na (Sp.hd b))).run Tryd.prog W = .ok (.bool (hdeq a b)) W := fun W => run_eqH a b W
  unfold pgeq
  unfold na Sp.hd at hA hBB hq
  simp only [List.map_cons, List.map_nil] at hA hBB hq
  generalize sseq a.steps b.steps = r at hE ⊢
  generalize hdeq a b = t at hq ⊢
  unfold pv at *
  clear ha hb hn hm
  go_enter Tryd.func11, Tryd.ntmps11
  go_upto_region 1 with fail
  rw [ewa.out]
  obtain ⟨x0, x1, x2, x3, x4⟩ := X1.out
  obtain ⟨y0, y1, y2, y3, y4⟩ := X2.out
  cases t with
  | true =>
    go_region_with (first
      | (go_at_call_of 23 (Value.agg #[Value.int IntKind.i64 a.len, Value.int IntKind.i64 a.cells, Value.int IntKind.i64 a.inn, Value.int IntKind.i64 a.out, Value.slice ao n c]); refine (hA.out _ (by first | assumption | exact Below.drew (by assumption) | exact (Below.refl _ _).drew | exact Below.refl _ _)).mono ?_; rintro e w5 ⟨rfl, B5⟩; obtain ⟨x0, x1, x2, x3, x4⟩ := X1.out.below B5; obtain ⟨y0, y1, y2, y3, y4⟩ := X2.out.below B5)
      | (go_at_call_of 23 (Value.agg #[Value.int IntKind.i64 b.len, Value.int IntKind.i64 b.cells, Value.int IntKind.i64 b.inn, Value.int IntKind.i64 b.out, Value.slice bo m d]); refine (hBB.out _ (by first | assumption | exact Below.drew (by assumption) | exact (Below.refl _ _).drew | exact Below.refl _ _)).mono ?_; rintro e w5 ⟨rfl, B5⟩; obtain ⟨x0, x1, x2, x3, x4⟩ := X1.out.below B5; obtain ⟨y0, y1, y2, y3, y4⟩ := X2.out.below B5)
      | (go_at_call 28; refine (hE.out _ (by first | assumption | exact Below.drew (by assumption) | exact (Below.refl _ _).drew | exact Below.refl _ _)).mono ?_; rintro e w5 ⟨rfl, B5⟩))
    all_goals (
      go_wp2
      go_ret
      exact ⟨rfl, Ba.out.trans (Below.mono (by assumption) Ba.out.size)⟩)
  | false =>
    first
    | (go_region_law (first
      | (refine step_skip (by rfl) ?_)
      | (go_simp; go_at_call_of 23 (Value.agg #[Value.int IntKind.i64 a.len, Value.int IntKind.i64 a.cells, Value.int IntKind.i64 a.inn, Value.int IntKind.i64 a.out, Value.slice ao n c]); refine (hA.out _ (by first | assumption | exact Below.drew (by assumption) | exact (Below.refl _ _).drew | exact Below.refl _ _)).mono ?_; rintro e w5 ⟨rfl, B5⟩; obtain ⟨x0, x1, x2, x3, x4⟩ := X1.out.below B5; obtain ⟨y0, y1, y2, y3, y4⟩ := X2.out.below B5)
      | (go_simp; go_at_call_of 23 (Value.agg #[Value.int IntKind.i64 b.len, Value.int IntKind.i64 b.cells, Value.int IntKind.i64 b.inn, Value.int IntKind.i64 b.out, Value.slice bo m d]); refine (hBB.out _ (by first | assumption | exact Below.drew (by assumption) | exact (Below.refl _ _).drew | exact Below.refl _ _)).mono ?_; rintro e w5 ⟨rfl, B5⟩; obtain ⟨x0, x1, x2, x3, x4⟩ := X1.out.below B5; obtain ⟨y0, y1, y2, y3, y4⟩ := X2.out.below B5)))
    | fail
    all_goals (
      go_wp2
      go_ret
      exact ⟨rfl, Ba.out.trans (Below.mono (by assumption) Ba.out.size)⟩)
end Go.Proofs.YtmlfichdfeblpaaDoor
