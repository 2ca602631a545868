/-
  Contracts of package roots' All and of the document's Root.
-/
import Derived.Test.YtgfmimmiaalhcaaDoorPs7
import Derived.Test.YtgfmimmiaalhcaaDoorPr7
namespace Go.Proofs.YtgfmimmiaalhcaaDoor
open Flo Go.RowKit

/-- the roots of n, as far as place j; noughts behind -/
def rlv (n k : Nat) : Nat × Nat := (Rp.pc n k, Rp.pim n k)
def rlu (n j : Nat) : List Value := (List.range n).map fun k => if k < j then .complex .f64 (Rp.pc n k) (Rp.pim n k) else .complex .f64 0 0
def rl (n : Nat) : List (Nat × Nat) := (List.range n).map (rlv n)
theorem rl_len (n : Nat) : (rl n).length = n := by simp [rl]
theorem rlu_0 (n : Nat) : rlu n 0 = List.replicate n (.complex .f64 0 0) := by
  apply List.ext_getElem
  · simp [rlu]
  · intro k h1 h2; simp [rlu]
theorem rlu_n (n : Nat) : rlu n n = cz (rl n) := by
  apply List.ext_getElem
  · simp [rlu, rl, cz]
  · intro k h1 h2
    have hk : k < n := by simpa [rlu] using h1
    simp [rlu, rl, cz, rlv, hk]
theorem rlu_step {n i : Nat} : (rlu n i).set i (.complex .f64 (Rp.pc n i) (Rp.pim n i)) = rlu n (i + 1) := by
  apply List.ext_getElem
  · simp [rlu]
  · intro k h1 h2
    rw [List.getElem_set]
    simp only [rlu, List.getElem_map, List.getElem_range]
    by_cases c : i = k
    · subst c; simp
    · rw [if_neg c]
      by_cases hk : k < i
      · rw [if_pos hk, if_pos (by omega)]
      · rw [if_neg hk, if_neg (by omega)]
theorem md_self {n k : Nat} (h : k < n) : Rp.md n (k : Int) = k := by
  unfold Rp.md
  rw [Int.emod_eq_of_lt (by omega) (by omega)]; omega
theorem root_n (n : Nat) (k : Nat) (w : World) (h : k < n) (hn : n ≤ 4194304) :
    Calls Tryd.prog 48 #[.int .i64 n, .int .i64 (k : Int)] w fun e w' => e = .returned (.complex .f64 (Rp.pc n k) (Rp.pim n k)) ∧ Below w.heap.size w w' := by
  have := root_c n (k : Int) w (by omega) hn
  rw [md_self h] at this
  exact this
def inn (n : Int) : Bool := decide (1 ≤ n ∧ n ≤ 16384)
set_option maxHeartbeats 2000000 in
theorem allOk_c (n : Nat) (w : World) (h : 0 < n) (hn : n ≤ 16384) :
    Calls Tryd.prog 45 #[.int .i64 n] w fun e w' => ∃ G, e = .returned (.tuple #[.slice (some ⟨G, 0, none⟩) n n, .nilIface]) ∧ w.heap.size ≤ G ∧ w'.ownsRow w.heap.size 23 1 (.slice (some ⟨G, 0, none⟩) n n) n (cz (rl n)) ∧ Below w.heap.size w w' := by
  obtain ⟨w1, hmk, hrow, hb1⟩ := makeCx w n (by omega)
  have hg1 : decide ((n : Int) < 1) = false := decide_eq_false (by omega)
  have hg2 : decide ((n : Int) > 16384) = false := decide_eq_false (by omega)
  have hg3 : (0 : Int) ≤ (n : Int) := by omega
  go_enter Tryd.func45, Tryd.ntmps45
  go_wp2
  clear hmk
  go_loopw [5, 17] (fun _ si wx => ∃ i : Nat, i ≤ n ∧ si = .int .i64 (i : Int) ∧ Hid (wx.ownsRow w.heap.size 23 1 (.slice (some ⟨w.heap.size, 0, none⟩) n n) n (rlu n i)) ∧ Hid (Below w.heap.size w wx)) (fun _ si _ => n - (intOf si).toNat)
  case atStart => exact ⟨0, Nat.zero_le _, rfl, (by rw [rlu_0]; exact hrow.out), hb1⟩
  case round =>
    clear hrow hb1
    obtain ⟨i, hi, rfl, hrow, hb⟩ := hrel
    by_cases hlt : i < n
    · have hlt' : (i : Int) < (n : Int) := by omega
      go_wp2_with fail
      refine (root_n n i _ hlt (by omega)).mono ?_
      rintro e w3 ⟨rfl, B3⟩
      have r3 := own_blw hrow.out B3
      have hs3 := hb.out.size
      have b3 : Hid (Below w.heap.size w w3) := hb.out.trans (B3.mono hs3)
      have c2 := r3.cellAt i (by omega)
      have c3 : w3.cell? ⟨w.heap.size, i, none⟩ = some (.complex .f64 0 0) := by rw [c2]; simp [rlu, hlt]
      have f2 := r3.frozenAt i
      have hst := r3.stored i (.complex .f64 (Rp.pc n i) (Rp.pim n i))
      rw [rlu_step] at hst
      have hst1 : Hid ((w3.setCell ⟨w.heap.size, i, none⟩ (.complex .f64 (Rp.pc n i) (Rp.pim n i))).ownsRow w.heap.size 23 1 (.slice (some ⟨w.heap.size, 0, none⟩) n n) n (rlu n (i + 1))) := hst.1
      have hb2 : Hid (Below w.heap.size w (w3.setCell ⟨w.heap.size, i, none⟩ (.complex .f64 (Rp.pc n i) (Rp.pim n i)))) := b3.out.setCell (p := ⟨w.heap.size, i, none⟩) (Nat.le_refl _) _
      have hsc := store_cx
      clear hst c2 r3 b3 hs3 B3 hrow hb
      go_wp2
      go_roundw
      case rel => exact ⟨i + 1, by omega, by go_num, hst1, hb2⟩
      case measure => simp [intOf]; omega
    · have hlt' : decide ((i : Int) < (n : Int)) = false := decide_eq_false (by omega)
      have ei : i = n := by omega
      subst ei
      rw [rlu_n] at hrow
      go_wp2
      go_ret2
      exact ⟨_, rfl, Nat.le_refl _, hrow.out, hb.out⟩
theorem ret_cx {a b c d : Nat} (h : a = b) (h' : c = d) : Ending.returned (.complex .f64 a c) = .returned (.complex .f64 b d) := by rw [h, h']
set_option maxHeartbeats 1000000 in
theorem r7Root_c (n : Nat) (k : Int) (w : World) (h : 0 < n) (hn : n ≤ 4194304) :
    Calls Tryd.prog 41 #[.int .i64 n, .int .i64 k] w fun e w' => e = .returned (.complex .f64 (Rp.pc n (Rp.md n k)) (Rp.pim n (Rp.md n k))) ∧ ∃ d, w' = w.drewN d := by
  have hs : Hid (Ari.fin (Rp.ps n (Rp.md n k))) := Rp.ps_fin _ h hn
  have ht := pair7_c n k w h hn
  generalize Rp.md n k = m at *
  unfold Rp.pim
  generalize Rp.pc n m = c at *
  generalize Rp.ps n m = s at *
  have ho : (FloatKind.f64.format.order s 0 == some .eq) = decide (s % 9223372036854775808 = 0) := order0 hs.out
  have hg := fun w => run_fneg (P := Tryd.prog) s w hs.out.1
  by_cases h0 : s % 9223372036854775808 = 0
  · rw [decide_eq_true h0] at ho
    have hv : Hid (0 = Rp.zp (Ari.ng s)) := (by unfold Rp.zp; rw [Ari.ng_mod hs.out.1, if_pos h0] : 0 = Rp.zp (Ari.ng s))
    clear h0
    go_enter Tryd.func41, Tryd.ntmps41
    go_wp2_with fail
    refine ht.mono ?_
    rintro e w2 ⟨rfl, d, rfl⟩
    go_wp2_with fail
    go_ret
    exact ⟨ret_cx rfl hv.out, d, rfl⟩
  · rw [decide_eq_false h0] at ho
    have hv : Hid (Ari.ng s = Rp.zp (Ari.ng s)) := (by unfold Rp.zp; rw [Ari.ng_mod hs.out.1, if_neg h0] : Ari.ng s = Rp.zp (Ari.ng s))
    clear h0
    go_enter Tryd.func41, Tryd.ntmps41
    go_wp2_with fail
    refine ht.mono ?_
    rintro e w2 ⟨rfl, d, rfl⟩
    go_wp2_with fail
    go_ret
    exact ⟨ret_cx rfl hv.out, d, rfl⟩
end Go.Proofs.YtgfmimmiaalhcaaDoor
