/-
  The document's All of layer 7; lists of roots in memory.
-/
import Derived.Test.YtljopkmpcolgfaaDoorPv7
import Derived.Test.YtljopkmpcolgfaaDoorPu7
namespace Go.Proofs.YtljopkmpcolgfaaDoor
open Flo Go.RowKit

/-- the roots of n lie at block g -/
structure Cel (w : World) (g n : Nat) : Prop where
  lt : g < w.heap.size
  at_ : ∀ j, j < n → w.cell? ⟨g, j, none⟩ = some (.complex .f64 (Rp.pc n j) (Rp.pim n j))
theorem Cel.below {w w' : World} {g n : Nat} (h : Cel w g n) (hb : Below w.heap.size w w') : Cel w' g n :=
  ⟨Nat.lt_of_lt_of_le h.lt hb.size, fun j hj => (hb.cell (p := ⟨g, j, none⟩) h.lt).trans (h.at_ j hj)⟩
theorem Cel.grown {w w' : World} {g n : Nat} {row : Option Nat} (h : Cel w g n) (hg : w.grownBy w' row) (hne : some g ≠ row) : Cel w' g n :=
  ⟨Nat.lt_of_lt_of_le h.lt hg.size, fun j hj => (World.cell?_of_block (a := ⟨g, j, none⟩) (hg.block g h.lt hne)).trans (h.at_ j hj)⟩
theorem rl_at {n j : Nat} (h : j < n) : (cz (rl n))[j]? = some (.complex .f64 (Rp.pc n j) (Rp.pim n j)) := by
  simp [cz, rl, rlv, h]
theorem Cel.own {w : World} {B g n cap : Nat} (h : w.ownsRow B 35 1 (.slice (some ⟨g, 0, none⟩) n cap) n (cz (rl n))) (hn : 0 < n) : Cel w g n := by
  have key : ∀ j, j < n → w.cell? ⟨g, j, none⟩ = some (.complex .f64 (Rp.pc n j) (Rp.pim n j)) := by
    intro j hj
    have := h.cellAt j (by omega)
    rw [rl_at hj] at this
    simpa using this
  refine ⟨?_, key⟩
  have := key 0 hn
  unfold World.cell? at this
  cases e : w.heap[g]? with
  | none => rw [e] at this; cases this
  | some o => exact (Array.getElem?_eq_some_iff.1 e).1
def rlt (n i : Nat) : List (Nat × Nat) := (List.range i).map (rlv n)
theorem rlt_snoc (n i : Nat) : rlt n (i + 1) = rlt n i ++ [rlv n i] := by simp [rlt, List.range_succ]
theorem rlt_len (n i : Nat) : (rlt n i).length = i := by simp [rlt]
theorem r7Root_n (n k : Nat) (w : World) (h : k < n) (hn : n ≤ 4194304) :
    Calls Tryd.prog 39 #[.int .i64 n, .int .i64 (k : Int)] w fun e w' => e = .returned (.complex .f64 (Rp.pc n k) (Rp.pim n k)) ∧ ∃ d, w' = w.drewN d := by
  have := r7Root_c n (k : Int) w (by omega) hn
  rw [md_self h] at this
  exact this
theorem r7AllNo_c (n : Int) (w : World) (h : inn n = false) :
    Calls Tryd.prog 41 #[.int .i64 n] w fun e w' => e = .returned (.tuple #[.slice none 0 0, .int .i64 7]) ∧ w' = w := by
  have h' : ¬ (1 ≤ n ∧ n ≤ 16384) := of_decide_eq_false h
  clear h
  by_cases h1 : n < 1
  · clear h'
    go_enter Tryd.func41, Tryd.ntmps41
    go_wp2
    go_ret2
    exact ⟨rfl, rfl⟩
  · have h1' : decide (n < 1) = false := decide_eq_false h1
    have h2 : n > 16384 := by omega
    clear h'
    go_enter Tryd.func41, Tryd.ntmps41
    go_wp2
    go_ret2
    exact ⟨rfl, rfl⟩
set_option maxHeartbeats 2000000 in
theorem r7AllOk_c (n : Nat) (w : World) (h : 0 < n) (hn : n ≤ 16384) :
    Calls Tryd.prog 41 #[.int .i64 n] w fun e w' => ∃ G C, e = .returned (.tuple #[.slice (some ⟨G, 0, none⟩) n C, .int .i64 0]) ∧ w.heap.size ≤ G ∧ Cel w' G n ∧ Below w.heap.size w w' := by
  obtain ⟨i0, hi, hz0, hz1, hz2⟩ := info_cx
  have hg1 : decide ((n : Int) < 1) = false := decide_eq_false (by omega)
  have hg2 : decide ((n : Int) > 16384) = false := decide_eq_false (by omega)
  have hE : Hid ((w.alloc (.cells #[] 35)).ownsRow w.heap.size 35 1 (.slice (some ⟨w.heap.size, 0, none⟩) 0 0) 0 (cz (rlt n 0))) := emptyCx w _ (Nat.le_refl _)
  have hB : Hid (Below w.heap.size w (w.alloc (.cells #[] 35))) := (Below.refl _ _).alloc (Nat.le_refl _) _
  go_enter Tryd.func41, Tryd.ntmps41
  go_wp2
  go_loopw [4, 5] (fun vf sj wx => ∃ i : Nat, i ≤ n ∧ sj = .int .i64 (i : Int) ∧ Hid (wx.ownsRow w.heap.size 35 1 vf i (cz (rlt n i))) ∧ Hid (Below w.heap.size w wx)) (fun _ sj _ => n - (intOf sj).toNat)
  case atStart => exact ⟨0, Nat.zero_le _, rfl, hE, hB⟩
  case round =>
    clear hE hB
    obtain ⟨i, hil, rfl, hown, hb⟩ := hrel
    by_cases hlt : i < n
    · have hlt' : (i : Int) < (n : Int) := by omega
      go_wp2_with fail
      refine (r7Root_n n i _ hlt (by omega)).mono ?_
      rintro e w3 ⟨rfl, d, rfl⟩
      have hownD : (wr.drewN d).ownsRow w.heap.size 35 1 u4 i (cz (rlt n i)) := own_blw hown.out (below_drewN (Below.refl _ _) d)
      have hbD : Below w.heap.size w (wr.drewN d) := below_drewN hb.out d
      have hsz := hbD.size
      have hsn : Hid (cz (rlt n (i + 1)) = cz (rlt n i) ++ [.complex .f64 (Rp.pc n i) (Rp.pim n i)]) := (by rw [rlt_snoc, cz_snoc]; rfl : cz (rlt n (i + 1)) = _)
      clear hown hb
      generalize wr.drewN d = wd at *
      go_wp2_with (at_builtin; refine wpList_append_own _ rfl _ _ 40 rfl w.heap.size 35 i0 (.complex .f64 0 0) 1 16 Tryd.underlying40 hi hz0 hz1 hz2 rfl (by decide) _ _ _ rfl (hownD.alloc _) ⟨wd.heap.size, 0, none⟩ 1 1 [.complex .f64 (Rp.pc n i) (Rp.pim n i)] rfl rfl ?c1 ?c2 ?c3 ?c4 ?c5 ?_)
      case c1 =>
        intro j u hj
        match j, hj with
        | 0, hj => simp at hj; subst hj; simp [Addr.add]
      case c2 => intro u hu; simp at hu; subst hu; rfl
      case c3 => unfold maxLen; omega
      case c4 => omega
      case c5 => simp; omega
      · intro v' w3 hown' hgrow hnil
        have hbl' : Hid (Below w.heap.size w w3) := (hbD.alloc hsz _).grown hgrow (by simp; omega) (fun k' hk' => (hownD.lt k' hk').1)
        rw [← hsn.out] at hown'
        have hownH : Hid (w3.ownsRow w.heap.size 35 1 v' (i + 1) (cz (rlt n (i + 1)))) := hown'
        clear hownD hgrow hnil hbD hown' hsn hsz
        go_wp2
        go_roundw
        case rel => exact ⟨i + 1, by omega, by go_num, hownH, hbl'⟩
        case measure => simp [intOf]; omega
    · have hlt' : decide ((i : Int) < (n : Int)) = false := decide_eq_false (by omega)
      have ei : i = n := by omega
      subst ei
      obtain ⟨F, C, rfl, hF⟩ : ∃ F C, u4 = .slice (some ⟨F, 0, none⟩) i C ∧ w.heap.size ≤ F := by
        rcases hown.out.2 with ⟨_, h⟩ | ⟨g, c, _, h, hg, _⟩
        · omega
        · exact ⟨g, c, h, hg⟩
      have hC : Hid (Cel wr F i) := Cel.own hown.out h
      go_wp2
      go_ret2
      exact ⟨F, C, rfl, hF, hC.out, hb.out⟩
end Go.Proofs.YtljopkmpcolgfaaDoor
