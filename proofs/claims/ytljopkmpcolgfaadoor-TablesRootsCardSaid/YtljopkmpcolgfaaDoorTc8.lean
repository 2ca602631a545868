/-
  Package tables: List (slices.Clone of a table).
-/
import Derived.Test.YtljopkmpcolgfaaDoorTb8
namespace Go.Proofs.YtljopkmpcolgfaaDoor
open Flo Go.RowKit Go.Maps Go.MuLone
theorem nilc_some (a : Addr) (m c : Nat) (w : World) : (binOp .eql 40 (.slice (some a) m c) (.slice none 0 0)).run Tryd.prog w = .ok (.bool false) w := by kernel_rfl
set_option maxRecDepth 100000 in
set_option maxHeartbeats 1000000 in
theorem clone8_c (g n : Nat) (w : World) (h1 : 0 < n) (h2 : n ≤ 16384) (hc : Cel w g n) :
    Calls Tryd.prog 28 #[.slice (some ⟨g, 0, none⟩) n n] w fun e w' => ∃ G C, e = .returned (.slice (some ⟨G, 0, none⟩) n C) ∧ w.heap.size ≤ G ∧ w'.ownsRow w.heap.size 35 1 (.slice (some ⟨G, 0, none⟩) n C) n (cz (rl n)) ∧ Below w.heap.size w w' := by
  obtain ⟨i0, hi, hz0, hz1, hz2⟩ := info_cx
  have hh : Hid (∀ o : Obj, ∀ j u, (cz (rl n))[j]? = some u → (w.alloc o).cell? (Addr.add ⟨g, 0, none⟩ j) = some u) := fun o j u hj => by
    have hl : j < n := by
      have := (List.getElem?_eq_some_iff.1 hj).1
      rwa [cz_len, rl_len] at this
    rw [rl_at hl] at hj
    cases hj
    have := hc.at_ j hl
    have e : Addr.add ⟨g, 0, none⟩ j = ⟨g, j, none⟩ := by simp [Addr.add]; omega
    rw [e, World.cell?_alloc_lt w o _ hc.lt]; exact this
  have hone : Hid (∀ u ∈ cz (rl n), u.oneCell' = true) := fun u hu => by
    obtain ⟨z, _, rfl⟩ := List.mem_map.1 hu
    rfl
  have hlen : Hid ((cz (rl n)).length = n * 1) := (by rw [cz_len, rl_len, Nat.mul_one] : (cz (rl n)).length = n * 1)
  have hq := nilc_some ⟨g, 0, none⟩ n n
  have hE : Hid ((w.alloc (.cells #[] 35)).ownsRow w.heap.size 35 1 (.slice (some ⟨w.heap.size, 0, none⟩) 0 0) 0 []) := emptyCx w _ (Nat.le_refl _)
  have hb2 : Hid (n ≤ 16384) := h2
  clear hc h2
  go_enter Tryd.func28, Tryd.ntmps28
  go_wp2_with (at_builtin; refine wpList_append_own _ rfl _ _ 40 rfl w.heap.size 35 i0 (.complex .f64 0 0) 1 16 Tryd.underlying40 hi hz0 hz1 hz2 rfl (by decide) _ _ _ rfl hE.out ⟨g, 0, none⟩ n n (cz (rl n)) rfl hlen.out (hh.out _) hone.out (by have := hb2.out; unfold maxLen; omega) (by have := hb2.out; omega) (by simp) ?_)
  intro v' w2 ho hg _
  have hoH : Hid (w2.ownsRow w.heap.size 35 1 v' n (cz (rl n))) := (by simpa using ho : w2.ownsRow w.heap.size 35 1 v' n (cz (rl n)))
  have hbH : Hid (Below w.heap.size w w2) := ((Below.refl w.heap.size w).alloc (Nat.le_refl _) _).grown hg (by simp) (fun k hk => by cases hk; exact Nat.le_refl _)
  obtain ⟨G, C, rfl, hG⟩ : ∃ G C, v' = .slice (some ⟨G, 0, none⟩) n C ∧ w.heap.size ≤ G := by
    rcases hoH.out.2 with ⟨_, h⟩ | ⟨G, C, _, h, hG, _⟩
    · omega
    · exact ⟨G, C, h, hG⟩
  clear ho hg hh hone hlen hE
  go_wp2
  go_ret
  exact ⟨G, C, rfl, hG, hoH.out, hbH.out⟩
section
variable {F : Nat → Prop} {w : World} {t bm made : Nat} {ks : List Nat}
set_option maxHeartbeats 2000000 in
theorem list_t (h : TB F w t bm ks made) (n : Nat) (h1 : 1 ≤ n) (h2 : n ≤ 16384) (hm : made < 4611686018427387904) (hF : n ∈ ks ∨ ∀ k, w.heap.size ≤ k → F k) :
    Calls Tryd.prog 13 #[.pointer (some ⟨t, 0, none⟩), .int .i64 (n : Int)] w fun e w' => ∃ wm G C, e = .returned (.tuple #[.slice (some ⟨G, 0, none⟩) n C, .nilIface]) ∧ TB F wm t bm (ins n ks) (nm n ks made) ∧ Fr (tb t bm) w wm ∧ Below wm.heap.size wm w' ∧ wm.heap.size ≤ G ∧
      w'.ownsRow wm.heap.size 35 1 (.slice (some ⟨G, 0, none⟩) n C) n (cz (rl n)) := by
  have ht := table_c h n h1 h2 hm hF
  clear h hm hF
  go_enter Tryd.func13, Tryd.ntmps13
  go_wp2_with fail
  refine ht.mono ?_
  rintro e1 w1 ⟨g, rfl, T1, F1, C1⟩
  have T1' : Hid (TB F w1 t bm (ins n ks) (nm n ks made)) := T1
  have F1' : Hid (Fr (tb t bm) w w1) := F1
  clear T1 F1 ht
  go_wp2_with fail
  refine (clone8_c g n w1 h1 h2 C1).mono ?_
  rintro e2 w2 ⟨G, C, rfl, g2, o2, B2⟩
  have o2' : Hid (w2.ownsRow w1.heap.size 35 1 (.slice (some ⟨G, 0, none⟩) n C) n (cz (rl n))) := o2
  have B2' : Hid (Below w1.heap.size w1 w2) := B2
  clear o2 B2 C1
  go_wp2_with fail
  go_ret2
  exact ⟨w1, G, C, rfl, T1'.out, F1'.out, B2'.out, g2, o2'.out⟩
end
end Go.Proofs.YtljopkmpcolgfaaDoor
