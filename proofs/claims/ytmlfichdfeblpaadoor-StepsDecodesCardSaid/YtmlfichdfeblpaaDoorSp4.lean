/-
  Steps and programs held against one another: the program's Same.
-/
import Derived.Test.YtmlfichdfeblpaaDoorSp3
import Derived.Deep.QuietTactic
import Derived.BigQuiet
import Derived.WalkSmall
namespace Go.Proofs.YtmlfichdfeblpaaDoor
open Flo Go.RowKit
def steq (a b : Sp.St) : Bool := (a.op == b.op) && ((a.dst == b.dst) && ((a.src == b.src) && ((a.jump == b.jump) && ((a.count == b.count) && ((a.n == b.n) && (a.k == b.k))))))
theorem steq_iff {a b : Sp.St} : steq a b = true ↔ a = b := by
  obtain ⟨a1, a2, a3, a4, a5, a6, a7⟩ := a
  obtain ⟨b1, b2, b3, b4, b5, b6, b7⟩ := b
  simp [steq]
theorem steq_self (a : Sp.St) : steq a a = true := steq_iff.2 rfl
theorem eqS (d : Nat) (a b : Sp.St) (w : World) : (Op.equalIn (d + 1 + 1) 36 (sv a) (sv b)).run Tryd.prog w = .ok (steq a b) w := by
  unfold sv sva steq
  rw [Op.equalIn]
  simp [go_sem]
  repeat' split
  all_goals simp_all
theorem run_neS (a b : Sp.St) (w : World) : (binOp .neq 36 (sv a) (sv b)).run Tryd.prog w = .ok (.bool (!steq a b)) w := by
  have e : binOp .neq 36 (sv a) (sv b) = (do pure (.bool (!(← Op.equalIn (9998 + 1 + 1) 36 (sv a) (sv b))))) := by rfl
  rw [e]
  simp [eqS 9998 a b _, go_sem]
theorem below_drewN {B : Nat} {a : World} : ∀ {w : World} (_ : Below B a w) (n : Nat), Below B a (w.drewN n)
  | w, h, 0 => h
  | w, h, n + 1 => by
    have := (below_drewN h n).drew
    exact ⟨this.os, this.tape, this.output, this.size, this.block⟩
/-- a step's cells, from p on -/
structure SAt (w : World) (q p : Nat) (s : Sp.St) : Prop where
  c0 : w.cell? ⟨q, p, none⟩ = some (.int .i64 s.op)
  c1 : w.cell? ⟨q, p + 1, none⟩ = some (.int .i64 s.dst)
  c2 : w.cell? ⟨q, p + 2, none⟩ = some (.int .i64 s.src)
  c3 : w.cell? ⟨q, p + 3, none⟩ = some (.int .i64 s.jump)
  c4 : w.cell? ⟨q, p + 4, none⟩ = some (.int .i64 s.count)
  c5 : w.cell? ⟨q, p + 5, none⟩ = some (.int .i64 s.n)
  c6 : w.cell? ⟨q, p + 6, none⟩ = some (.int .i64 s.k)
theorem SAt.below {w w' : World} {q p : Nat} {s : Sp.St} (h : SAt w q p s) (hb : Below w.heap.size w w') : SAt w' q p s :=
  ⟨(hb.cell (cell_lt h.c0)).trans h.c0, (hb.cell (cell_lt h.c1)).trans h.c1, (hb.cell (cell_lt h.c2)).trans h.c2, (hb.cell (cell_lt h.c3)).trans h.c3, (hb.cell (cell_lt h.c4)).trans h.c4, (hb.cell (cell_lt h.c5)).trans h.c5, (hb.cell (cell_lt h.c6)).trans h.c6⟩
/-- a list of steps that can be read -/
def Ss (w : World) (ao : Option Addr) (ss : List Sp.St) : Prop := ∀ i s, ss[i]? = some s → ∃ q o, ao = some ⟨q, o, none⟩ ∧ SAt w q (o + i * 7) s
theorem Ss.below {w w' : World} {ao : Option Addr} {ss : List Sp.St} (h : Ss w ao ss) (hb : Below w.heap.size w w') : Ss w' ao ss := fun i s hi => by
  obtain ⟨q, o, e, hs⟩ := h i s hi
  exact ⟨q, o, e, hs.below hb⟩
def sseq : List Sp.St → List Sp.St → Bool
  | [], [] => true
  | a :: l, b :: m => steq a b && sseq l m
  | _, _ => false
theorem sseq_iff : ∀ {l m : List Sp.St}, sseq l m = true ↔ l = m
  | [], [] => by simp [sseq]
  | [], _ :: _ => by simp [sseq]
  | _ :: _, [] => by simp [sseq]
  | a :: l, b :: m => by simp [sseq, steq_iff, sseq_iff]
theorem sseq_len {l m : List Sp.St} (h : l.length ≠ m.length) : sseq l m = false := by
  cases e : sseq l m with
  | false => rfl
  | true => exact absurd (congrArg List.length (sseq_iff.1 e)) h
theorem drop_get {l : List Sp.St} {i : Nat} {s : Sp.St} (h : l[i]? = some s) : l.drop i = s :: l.drop (i + 1) := by
  obtain ⟨hi, rfl⟩ := List.getElem?_eq_some_iff.1 h
  exact List.drop_eq_getElem_cons hi
set_option maxHeartbeats 4000000 in
set_option maxRecDepth 100000 in
theorem sequal_c (ao bo : Option Addr) (n m c d : Nat) (xs ys : List Sp.St) (w : World) (ha : Ss w ao xs) (hb : Ss w bo ys) (hn : n = xs.length) (hm : m = ys.length) (hnb : n ≤ 140737488355328) :
    Calls Tryd.prog 28 #[.slice ao n c, .slice bo m d] w fun e w' => e = .returned (.bool (sseq xs ys)) ∧ Below w.heap.size w w' := by
  have haH : Hid (Ss w ao xs) := ha
  have hbH : Hid (Ss w bo ys) := hb
  clear ha hb
  by_cases hnm : n = m
  · have hnA : Hid (n = xs.length) := hn
    have hmB : Hid (n = ys.length) := hnm.trans hm
    subst hnm
    clear hn hm
    have q0 : ((n : Int) != (n : Int)) = false := by simp
    go_enter Tryd.func28, Tryd.ntmps28
    go_wp2
    go_loopw [13] (fun i wr => ∃ k : Nat, k ≤ n ∧ i = .int .i64 k ∧ Hid (sseq xs ys = sseq (xs.drop k) (ys.drop k)) ∧ Hid (Below w.heap.size w wr)) (fun i _ => n - (intOf i).toNat)
    case atStart => exact ⟨0, Nat.zero_le _, rfl, rfl, Below.refl _ _⟩
    case round =>
      obtain ⟨k, hk, rfl, heq, hB⟩ := hrel
      by_cases hlt : k < n
      · have hlt' : (k : Int) < (n : Int) := by omega
        obtain ⟨x, hx⟩ : ∃ x, xs[k]? = some x := ⟨_, List.getElem?_eq_getElem (by rw [← hnA.out]; exact hlt)⟩
        obtain ⟨y, hy⟩ : ∃ y, ys[k]? = some y := ⟨_, List.getElem?_eq_getElem (by rw [← hmB.out]; exact hlt)⟩
        obtain ⟨q, o, rfl, hs⟩ := haH.out k x hx
        obtain ⟨q', o', rfl, hs'⟩ := hbH.out k y hy
        have hd : Hid (sseq xs ys = (steq x y && sseq (xs.drop (k + 1)) (ys.drop (k + 1)))) := by
          rw [heq.out, drop_get hx, drop_get hy]; rfl
        have r1 := hs.below hB.out
        have r2 := hs'.below hB.out
        have hne : ∀ W : World, _ := fun W => run_neS x y W
        unfold sv sva at hne
        generalize steq x y = b at hd hne
        clear hx hy hs hs' heq
        have R1 : ∀ D, SAt (wr.drewN D) q (o + k * 7) x := fun D => ⟨r1.c0, r1.c1, r1.c2, r1.c3, r1.c4, r1.c5, r1.c6⟩
        have R2 : ∀ D, SAt (wr.drewN D) q' (o' + k * 7) y := fun D => ⟨r2.c0, r2.c1, r2.c2, r2.c3, r2.c4, r2.c5, r2.c6⟩
        obtain ⟨x0, x1, x2, x3, x4, x5, x6⟩ := r1
        obtain ⟨y0, y1, y2, y3, y4, y5, y6⟩ := r2
        clear R1 R2
        go_wp2
        go_quiet (fail)
        have hB2 : Hid (Below w.heap.size w (wr.drewN nq)) := below_drewN hB.out nq
        generalize wr.drewN nq = wd at hB2 ⊢
        clear x0 x1 x2 x3 x4 x5 x6 y0 y1 y2 y3 y4 y5 y6 hne
        cases b with
        | true =>
          have hd2 : Hid (sseq xs ys = sseq (xs.drop (k + 1)) (ys.drop (k + 1))) := hd
          go_wp2
          go_roundw
          case rel => exact ⟨k + 1, by omega, by go_num, hd2, hB2⟩
          case measure => simp [intOf]; omega
        | false =>
          have hd2 : Hid (sseq xs ys = false) := hd
          go_wp2
          go_ret
          exact ⟨by rw [hd2.out]; rfl, hB2.out⟩
      · have hlt' : decide ((k : Int) < (n : Int)) = false := decide_eq_false (by omega)
        have hlt2 : ¬ k < n := hlt
        have hd2 : Hid (sseq xs ys = true) := by
          have e : k = n := by omega
          show _ = _
          rw [heq.out, e, List.drop_eq_nil_of_le (by rw [← hnA.out]; exact Nat.le_refl _), List.drop_eq_nil_of_le (by rw [← hmB.out]; exact Nat.le_refl _)]
          rfl
        clear heq
        go_wp2
        go_ret
        exact ⟨by rw [hd2.out]; rfl, hB.out⟩
  · have q0 : ((n : Int) != (m : Int)) = true := bne_iff_ne.2 (by omega)
    have hf : Hid (sseq xs ys = false) := sseq_len (by rw [← hn, ← hm]; exact hnm)
    clear hn hm
    go_enter Tryd.func28, Tryd.ntmps28
    go_wp2
    go_ret
    exact ⟨by rw [hf.out]; rfl, Below.refl _ _⟩
end Go.Proofs.YtmlfichdfeblpaaDoor
