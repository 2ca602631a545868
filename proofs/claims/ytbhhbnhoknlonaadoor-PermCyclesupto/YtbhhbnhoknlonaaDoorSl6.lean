/-
  The contracts of the document's Sign and of the statements' own sameLists.
-/
import Derived.Test.YtbhhbnhoknlonaaDoorRc6
import Derived.BigQuiet
namespace Go.Proofs.YtbhhbnhoknlonaaDoor
open Flo Go.RowKit Go.Shelf

theorem sgf_par {m c : Nat} (_h : c ≤ m) : ((m : Int) - (c : Int)) % 2 = 0 ↔ (m + c) % 2 = 0 := by omega
set_option maxHeartbeats 2000000 in
theorem r6Sign_c (v : Value) (p : List Int) (w : World) (hR : RdZ w v p) (hn : p.length ≤ 1048576) :
    Calls Tryd.prog 17 #[v] w fun e w' => e = .returned (.tuple #[.int .i64 (sgV p), .int .i64 (ckE p)]) ∧ Below w.heap.size w w' := by
  have hRH : Hid (RdZ w v p) := hR
  obtain ⟨ao, cap, rfl, _⟩ := hR
  go_enter Tryd.func17, Tryd.ntmps17
  go_wp2_with fail
  refine (r6Check_c _ p w hRH.out (by omega)).mono ?_
  rintro e w1 ⟨rfl, b1⟩
  have B1 : Hid (Below w.heap.size w w1) := b1
  clear b1
  cases hck : ckB p
  · have hf : Hid (sgV p = 0 ∧ ckE p = 12) := (⟨by unfold sgV; rw [if_neg (by rw [hck]; decide)], ckE_false hck⟩ : sgV p = 0 ∧ ckE p = 12)
    rw [ckE_false hck]
    clear hck
    go_wp2
    go_ret2
    exact ⟨by rw [hf.out.1, hf.out.2]; rfl, B1.out⟩
  · have hf : Hid (sgV p = sgf p.length (Pm.lp p p.length).length ∧ ckE p = 0 ∧ lpC p = Pm.lp p p.length) := (⟨by unfold sgV; rw [if_pos hck], ckE_true hck, by unfold lpC; rw [if_pos hck]⟩ : sgV p = sgf p.length (Pm.lp p p.length).length ∧ ckE p = 0 ∧ lpC p = Pm.lp p p.length)
    rw [ckE_true hck]
    clear hck
    go_wp2_with fail
    refine (r6Cycles_c _ p w1 (hRH.out.below B1.out) hn).mono ?_
    rintro e w2 ⟨v', ys, rfl, hys, ho, _, b2⟩
    have B2 : Hid (Below w.heap.size w w2) := B1.out.trans (b2.mono B1.out.size)
    obtain ⟨ao2, c2, rfl⟩ := own_slice ho
    have hl : ys.length = (Pm.lp p p.length).length := by rw [← hf.out.2.2, ← hys, List.length_map]
    have hle := Pm.lp_len_le p p.length
    rw [← hl] at hle
    have hl2 : Hid (ys.length = (Pm.lp p p.length).length) := hl
    clear ho b2 hys hl
    obtain ⟨c, hc⟩ : ∃ c, ys.length = c := ⟨_, rfl⟩
    rw [hc] at hle hl2 ⊢
    obtain ⟨m, hm⟩ : ∃ m, p.length = m := ⟨_, rfl⟩
    have hmH : Hid (p.length = m) := hm
    rw [hm] at hle hn ⊢
    clear hc hm
    have hpar := sgf_par hle
    by_cases h2 : (m + c) % 2 = 0
    · have d1 : (((m : Int) - (c : Int)) % 2 == 0) = true := by rw [beq_iff_eq]; exact hpar.2 h2
      have hfin : Hid (sgV p = 1) := (by rw [hf.out.1, ← hl2.out, hmH.out]; unfold sgf; rw [if_pos h2] : sgV p = 1)
      obtain ⟨z, hz⟩ : ∃ z : Int, (m : Int) - (c : Int) = z := ⟨_, rfl⟩
      have hzb : 0 ≤ z ∧ z ≤ 1048576 := by omega
      rw [hz] at d1
      clear hpar h2
      go_wp2
      go_ret2
      exact ⟨by rw [hfin.out, hf.out.2.1]; rfl, B2.out⟩
    · have d1 : (((m : Int) - (c : Int)) % 2 == 0) = false := beq_eq_false_iff_ne.2 (fun e => h2 (hpar.1 e))
      have hfin : Hid (sgV p = -1) := (by rw [hf.out.1, ← hl2.out, hmH.out]; unfold sgf; rw [if_neg h2] : sgV p = -1)
      obtain ⟨z, hz⟩ : ∃ z : Int, (m : Int) - (c : Int) = z := ⟨_, rfl⟩
      have hzb : 0 ≤ z ∧ z ≤ 1048576 := by omega
      rw [hz] at d1
      clear hpar h2
      go_wp2
      go_ret2
      exact ⟨by rw [hfin.out, hf.out.2.1]; rfl, B2.out⟩
/-- a cycle, as ints -/
def orbZ (p : List Int) (x : Nat) : List Int := (List.range (Pm.per p x)).map fun k => ((Pm.it p x k : Nat) : Int)
theorem orbZ_iz (p : List Int) (x : Nat) : iz (orbZ p x) = fl (Pm.it p x) (Pm.per p x) := by simp [orbZ, iz, fl]
theorem orbZ_len (p : List Int) (x : Nat) : (orbZ p x).length = Pm.per p x := by simp [orbZ]
theorem CyO.rd {p : List Int} {N : Nat} {W : World} {ys : List (Value × Nat)} (h : CyO p N W ys) {y : Value × Nat} (hy : y ∈ ys) : RdZ W y.1 (orbZ p y.2) := by
  have := h.row y hy
  rw [← orbZ_iz, ← orbZ_len] at this
  exact RdZ.of_own this
/-- what stands at a place of a row of lists -/
theorem head_cell {W : World} {N : Nat} {v : Value} {ys : List (Value × Nat)} (h : W.ownsRow N 22 1 v ys.length (ys.map (·.1))) {i : Nat} (hi : i < ys.length) : ∃ g c, v = .slice (some ⟨g, 0, none⟩) ys.length c ∧ W.cell? ⟨g, i, none⟩ = some ys[i].1 := by
  obtain ⟨g, c, rfl, _⟩ := ownsRow_form h (by omega)
  refine ⟨g, c, rfl, ?_⟩
  rw [h.cellAt i (by omega)]
  simp [hi]
set_option maxHeartbeats 4000000 in
theorem sameLists_c (va vb : Value) (p : List Int) (N M : Nat) (xs ys : List (Value × Nat)) (w : World) (hok : ∀ x ∈ lpC p, Pm.per p x ≤ 1048576) (ha : w.ownsRow N 22 1 va xs.length (xs.map (·.1))) (hb : w.ownsRow M 22 1 vb ys.length (ys.map (·.1)))
    (hx : xs.map (·.2) = lpC p) (hy : ys.map (·.2) = lpC p) (hX : CyO p N w xs) (hY : CyO p M w ys) (hl : (lpC p).length ≤ 1048576) :
    Calls Tryd.prog 19 #[va, vb] w fun e w' => e = .returned (.bool true) ∧ ∃ k, w' = w.drewN k := by
  have haH : Hid (w.ownsRow N 22 1 va xs.length (xs.map (·.1))) := ha
  have hbH : Hid (w.ownsRow M 22 1 vb ys.length (ys.map (·.1))) := hb
  have hlx : xs.length = (lpC p).length := by rw [← hx, List.length_map]
  have hly : ys.length = (lpC p).length := by rw [← hy, List.length_map]
  have hxi : Hid (∀ i (h : i < xs.length), RdZ w xs[i].1 (orbZ p ((lpC p).getD i 0)) ∧ (orbZ p ((lpC p).getD i 0)).length < 9223372036854775807) := fun i h => by
    have e : (lpC p).getD i 0 = xs[i].2 := by rw [← hx]; simp [List.getD, h]
    have hm : xs[i].2 ∈ lpC p := by rw [← hx]; exact List.mem_map_of_mem (List.getElem_mem h)
    rw [e]
    exact ⟨hX.rd (List.getElem_mem h), by rw [orbZ_len]; have := hok _ hm; omega⟩
  have hyi : Hid (∀ i (h : i < ys.length), RdZ w ys[i].1 (orbZ p ((lpC p).getD i 0))) := fun i h => by
    have e : (lpC p).getD i 0 = ys[i].2 := by rw [← hy]; simp [List.getD, h]
    rw [e]
    exact hY.rd (List.getElem_mem h)
  obtain ⟨aa, ca, rfl⟩ := own_slice ha
  obtain ⟨ab, cb, rfl⟩ := own_slice hb
  obtain ⟨n, hn⟩ : ∃ n, (lpC p).length = n := ⟨_, rfl⟩
  have hlxH : Hid (xs.length = n) := hlx.trans hn
  have hlyH : Hid (ys.length = n) := hly.trans hn
  rw [hn] at hl
  rw [hlxH.out, hlyH.out]
  clear ha hb hx hy hX hY hok hlx hly hn
  go_enter Tryd.func19, Tryd.ntmps19
  go_wp2
  go_loopw [5, 13] (fun _ si wx => ∃ i k : Nat, i ≤ n ∧ si = .int .i64 (i : Int) ∧ wx = w.drewN k) (fun _ si _ => n - (intOf si).toNat)
  case atStart => exact ⟨0, 0, Nat.zero_le _, rfl, rfl⟩
  case round =>
    obtain ⟨i, k, hi, rfl, rfl⟩ := hrel
    by_cases hlt : i < n
    · have hlt' : (i : Int) < (n : Int) := by omega
      have hix : i < xs.length := by rw [hlxH.out]; exact hlt
      have hiy : i < ys.length := by rw [hlyH.out]; exact hlt
      obtain ⟨ga, ca', e1, c1⟩ := head_cell haH.out hix
      obtain ⟨gb, cb', e2, c2⟩ := head_cell hbH.out hiy
      have e1' : aa = some ⟨ga, 0, none⟩ := by cases e1; rfl
      have e2' : ab = some ⟨gb, 0, none⟩ := by cases e2; rfl
      subst e1' e2'
      have c1' : (w.drewN k).cell? ⟨ga, i, none⟩ = some xs[i].1 := c1
      have c2' : (w.drewN k).cell? ⟨gb, i, none⟩ = some ys[i].1 := c2
      have hx9 : Hid (RdZ (w.drewN k) xs[i].1 (orbZ p ((lpC p).getD i 0)) ∧ (orbZ p ((lpC p).getD i 0)).length < 9223372036854775807) := hxi.out i hix
      have hy9 : Hid (RdZ (w.drewN k) ys[i].1 (orbZ p ((lpC p).getD i 0))) := hyi.out i hiy
      generalize xs[i].1 = xv at c1' hx9
      generalize ys[i].1 = yv at c2' hy9
      generalize hw1 : w.drewN k = w5 at c1' c2' hx9 hy9 ⊢
      have hw : Hid (w.drewN k = w5) := hw1
      clear hw1 e1 e2 c1 c2
      go_wp2
      go_quiet ((go_at_call 13; exact (sameZ_c xv yv _ _ _ (hx9.out.1.drewN _) (hy9.out.drewN _) hx9.out.2).mono fun _ _ h => ⟨by rw [h.1, show decide (orbZ p ((lpC p).getD i 0) = orbZ p ((lpC p).getD i 0)) = true from decide_eq_true rfl], by obtain ⟨q, hq⟩ := h.2; exact ⟨_, by rw [hq, World.drewN_drewN]⟩⟩))
      go_wp2
      go_roundw
      case rel => exact ⟨i + 1, k + nq, by omega, by go_num, by rw [← hw.out, World.drewN_drewN]⟩
      case measure => simp [intOf]; omega
    · have hlt' : decide ((i : Int) < (n : Int)) = false := decide_eq_false (by omega)
      go_wp2
      go_ret
      exact ⟨rfl, k, rfl⟩
end Go.Proofs.YtbhhbnhoknlonaaDoor
