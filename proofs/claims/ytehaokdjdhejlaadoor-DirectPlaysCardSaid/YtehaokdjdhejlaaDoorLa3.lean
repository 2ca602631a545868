/-
  Layer 10's statements: a list with spare room, and whether it is kept.
-/
import Derived.Test.YtehaokdjdhejlaaDoorLa2
import Derived.Test.YtehaokdjdhejlaaDoorFrm
namespace Go.Proofs.YtehaokdjdhejlaaDoor
open Flo Go.RowKit
/-- 77 and 88 -/
def r77 : List (Nat × Nat) := [(4635118810238550016, 0), (4635892866424504320, 0)]
theorem addr10 (b i : Nat) : (⟨b, 0, none⟩ : Addr).add i = ⟨b, i, none⟩ := by
  unfold Addr.add
  by_cases h : i = 0
  · subst h; simp
  · simp [h]
theorem cell_two10 (w : World) (a b : Value) (t : TypeId) : ∀ (j : Nat) u, [a, b][j]? = some u → (w.alloc (.cells #[a, b] t)).cell? ((⟨w.heap.size, 0, none⟩ : Addr).add j) = some u := by
  intro j u hj
  match j, hj with
  | 0, hj => simp at hj; subst hj; simp [Addr.add]
  | 1, hj => simp at hj; subst hj; simp [Addr.add]
set_option maxRecDepth 100000 in
set_option maxHeartbeats 2000000 in
theorem room_n (gx n cx : Nat) (xs : List (Nat × Nat)) (w : World) (hx : Hid (w.ownsRow 0 37 1 (.slice (some ⟨gx, 0, none⟩) n cx) n (cz xs))) (hn : n ≤ 8796093022000) :
    Calls Tryd.prog 11 #[.slice (some ⟨gx, 0, none⟩) n cx] w fun e w' => ∃ g cap, e = .returned (.tuple #[.slice (some ⟨g, 0, none⟩) n cap, .slice (some ⟨g, 0, none⟩) (n + 2) cap]) ∧ w'.ownsRow w.heap.size 37 1 (.slice (some ⟨g, 0, none⟩) (n + 2) cap) (n + 2) (cz (xs ++ r77)) ∧ Below w.heap.size w w' := by
  obtain ⟨i0, hi, hz0, hz1, hz2⟩ := info_cx
  go_enter Tryd.func11, Tryd.ntmps11
  have hE : Hid ((w.alloc (.cells #[] 37)).ownsRow w.heap.size 37 1 (.slice (some ⟨w.heap.size, 0, none⟩) 0 0) 0 (cz [])) := emptyCx w _ (Nat.le_refl _)
  have hlen : Hid ((cz xs).length = n * 1) := hx.out.1
  have hcl : Hid (∀ j u, (cz xs)[j]? = some u → (w.alloc (.cells #[] 37)).cell? ((⟨gx, 0, none⟩ : Addr).add j) = some u) := by
    show ∀ j u, _
    intro j u hj
    have hjl : j < n := by
      have := (List.getElem?_eq_some_iff.1 hj).1
      have := hlen.out
      omega
    have h1 := (own_blw hx.out ((Below.refl _ w).alloc (Nat.le_refl _) (.cells #[] 37))).cellAt j (by omega)
    rw [hj] at h1
    rw [addr10]
    simpa using h1
  have h1c : Hid (∀ u ∈ cz xs, u.oneCell' = true) := by
    show ∀ u ∈ cz xs, _
    intro u hu
    obtain ⟨z, _, rfl⟩ := List.mem_map.1 hu
    rfl
  go_wp2_with (at_builtin; refine wpList_append_own _ rfl _ _ 24 rfl w.heap.size 37 i0 (.complex .f64 0 0) 1 16 Tryd.underlying24 hi hz0 hz1 hz2 rfl (by decide) _ _ _ rfl hE.out ⟨gx, 0, none⟩ n cx (cz xs) rfl hlen.out hcl.out h1c.out (by unfold maxLen; omega) (by omega) (by simp) ?_)
  intro v1 w1 q1 q2 q3
  have O1 : Hid (w1.ownsRow w.heap.size 37 1 v1 n (cz xs)) := by
    have : cz [] ++ cz xs = cz xs := rfl
    rw [this] at q1
    exact q1
  have B1 : Hid (Below w.heap.size w w1) := ((Below.refl _ w).alloc (Nat.le_refl _) _).grown q2 (by simp) (fun k hk => by have h2 : w.heap.size = k := Option.some.inj hk; omega)
  have hs1 := B1.out.size
  clear q1 q2 q3 hE hcl h1c hlen
  go_wp2_with (at_builtin; refine wpList_append_own _ rfl _ _ 24 rfl w.heap.size 37 i0 (.complex .f64 0 0) 1 16 Tryd.underlying24 hi hz0 hz1 hz2 rfl (by decide) _ _ _ rfl (O1.out.alloc _) ⟨w1.heap.size, 0, none⟩ 2 2 (cz r77) rfl rfl (cell_two10 _ _ _ _) (by intro u hu; obtain ⟨z, _, rfl⟩ := List.mem_map.1 hu; rfl) (by unfold maxLen; omega) (by omega) (by simp; omega) ?_)
  intro v2 w2 q1 q2 q3
  have O2 : Hid (w2.ownsRow w.heap.size 37 1 v2 (n + 2) (cz (xs ++ r77))) := by
    have : cz xs ++ cz r77 = cz (xs ++ r77) := by simp [cz]
    rw [this] at q1
    exact q1
  have B2 : Hid (Below w.heap.size w w2) := (B1.out.alloc hs1 _).grown q2 (by simp; omega) (fun k hk => (O1.out.lt k hk).1)
  obtain ⟨g, cap, rfl, hcap⟩ : ∃ g cap, v2 = .slice (some ⟨g, 0, none⟩) (n + 2) cap ∧ n + 2 ≤ cap := by
    rcases O2.out.2 with ⟨_, h⟩ | ⟨g, c, _, h, _, _, h5, _⟩
    · omega
    · exact ⟨g, c, h, h5⟩
  clear q1 q2 q3 O1 B1
  have hc1 : (n : Int) ≤ (cap : Int) := by omega
  have hc0 : (0 : Int) ≤ (n : Int) := by omega
  have hnc : ¬ cap = 0 := by omega
  go_wp2_with fail
  go_ret2
  exact ⟨g, cap, rfl, O2.out, B2.out⟩
theorem room_c (v : Value) (n : Nat) (xs : List (Nat × Nat)) (w : World) (hx : w.ownsRow 0 37 1 v n (cz xs)) (hv : v ≠ .slice none 0 0) (hn : n ≤ 8796093022000) :
    Calls Tryd.prog 11 #[v] w fun e w' => ∃ g cap, e = .returned (.tuple #[.slice (some ⟨g, 0, none⟩) n cap, .slice (some ⟨g, 0, none⟩) (n + 2) cap]) ∧ w'.ownsRow w.heap.size 37 1 (.slice (some ⟨g, 0, none⟩) (n + 2) cap) (n + 2) (cz (xs ++ r77)) ∧ Below w.heap.size w w' := by
  rcases hx.2 with ⟨rfl, rfl⟩ | ⟨g, c, cu, rfl, _⟩
  · exact absurd rfl hv
  · exact room_n g n c xs w hx hn
/-- the room: xs, then 77 and 88, at block g -/
structure Rm (w : World) (g n : Nat) (xs : List (Nat × Nat)) : Prop where
  lt : g < w.heap.size
  len : xs.length = n
  at_ : ∀ i, i < n → w.cell? ⟨g, i, none⟩ = some (.complex .f64 (xs.getD i (0, 0)).1 (xs.getD i (0, 0)).2)
  c77 : w.cell? ⟨g, n, none⟩ = some (.complex .f64 4635118810238550016 0)
  c88 : w.cell? ⟨g, n + 1, none⟩ = some (.complex .f64 4635892866424504320 0)
theorem Rm.below {w w' : World} {g n : Nat} {xs : List (Nat × Nat)} (h : Rm w g n xs) (hb : Below w.heap.size w w') : Rm w' g n xs :=
  ⟨Nat.lt_of_lt_of_le h.lt hb.size, h.len, fun i hi => (hb.cell (p := ⟨g, i, none⟩) h.lt).trans (h.at_ i hi), (hb.cell (p := ⟨g, n, none⟩) h.lt).trans h.c77, (hb.cell (p := ⟨g, n + 1, none⟩) h.lt).trans h.c88⟩
theorem Rm.fr {w w' : World} {S : Nat → Prop} {g n : Nat} {xs : List (Nat × Nat)} (h : Rm w g n xs) (hf : Fr S w w') (hS : ¬ S g) : Rm w' g n xs :=
  ⟨Nat.lt_of_lt_of_le h.lt hf.size, h.len, fun i hi => hf.cell (h.at_ i hi) hS, hf.cell h.c77 hS, hf.cell h.c88 hS⟩
theorem Rm.rd {w : World} {g n : Nat} {xs : List (Nat × Nat)} (h : Rm w g n xs) (cap : Nat) : RdC w (.slice (some ⟨g, 0, none⟩) n cap) xs :=
  ⟨some ⟨g, 0, none⟩, cap, by rw [h.len], fun _ => ⟨g, 0, rfl, h.lt, fun i hi => by rw [Nat.zero_add]; exact h.at_ i (by rw [← h.len]; exact hi)⟩⟩
theorem Rm.own {w : World} {B g n cap : Nat} {xs : List (Nat × Nat)} (h : w.ownsRow B 37 1 (.slice (some ⟨g, 0, none⟩) (n + 2) cap) (n + 2) (cz (xs ++ r77))) (hl : xs.length = n) : Rm w g n xs := by
  have key : ∀ i, i < n + 2 → w.cell? ⟨g, i, none⟩ = some (.complex .f64 ((xs ++ r77).getD i (0, 0)).1 ((xs ++ r77).getD i (0, 0)).2) := fun i hi => by
    have h1 := h.cellAt i (by omega)
    rw [cz_get _ i (by rw [List.length_append, hl]; exact hi)] at h1
    simpa using h1
  refine ⟨(h.lt g rfl).2, hl, fun i hi => ?_, ?_, ?_⟩
  · have := key i (by omega)
    rw [show (xs ++ r77).getD i (0, 0) = xs.getD i (0, 0) by simp [List.getD, List.getElem?_append, hl, hi]] at this
    exact this
  · have := key n (by omega)
    rw [show (xs ++ r77).getD n (0, 0) = (4635118810238550016, 0) by simp [List.getD, hl, r77]] at this
    exact this
  · have := key (n + 1) (by omega)
    rw [show (xs ++ r77).getD (n + 1) (0, 0) = (4635892866424504320, 0) by simp [List.getD, hl, r77]] at this
    exact this
set_option maxRecDepth 100000 in
set_option maxHeartbeats 2000000 in
theorem kept_c (g n cap : Nat) (v : Value) (xs : List (Nat × Nat)) (w : World) (hR : Rm w g n xs) (hx : RdC w v xs) (hl : Lim xs) (hn : n ≤ 8796093022000) (hcap : n + 2 ≤ cap) :
    Calls Tryd.prog 16 #[.slice (some ⟨g, 0, none⟩) (n + 2) cap, v] w fun e w' => e = .returned (.bool true) ∧ ∃ d, w' = w.drewN d := by
  obtain ⟨ax, cx, rfl⟩ := hx.slice hR.len
  have hS : Hid (Calls Tryd.prog 15 #[.slice (some ⟨g, 0, none⟩) n cap, .slice ax n cx] w fun e w' => e = .returned (.bool true) ∧ ∃ d, w' = w.drewN d) := sameList10_c _ _ xs xs w (hR.rd cap) hx hl hl (Lks.refl _) (by rw [hR.len]; omega)
  have c1 : Hid (∀ d, (w.drewN d).cell? ⟨g, n, none⟩ = some (.complex .f64 4635118810238550016 0)) := fun _ => hR.c77
  have c2 : Hid (∀ d, (w.drewN d).cell? ⟨g, n + 1, none⟩ = some (.complex .f64 4635892866424504320 0)) := fun _ => hR.c88
  have o0 : FloatKind.f64.format.order 0 0 = some .eq := by decide +kernel
  have o1 : FloatKind.f64.format.order 4635118810238550016 4635118810238550016 = some .eq := by decide +kernel
  have o2 : FloatKind.f64.format.order 4635892866424504320 4635892866424504320 = some .eq := by decide +kernel
  obtain ⟨m, hm, hm1⟩ : ∃ m : Nat, n + 2 = m ∧ (n : Int) + 2 = (m : Int) := ⟨n + 2, rfl, by omega⟩
  obtain ⟨n1, hn1, hn2⟩ : ∃ n1 : Nat, Hid (n + 1 = n1) ∧ (n : Int) + 1 = (n1 : Int) := ⟨n + 1, (rfl : _ = _), by omega⟩
  rw [hm]
  have hmm : ((m : Int) == (m : Int)) = true := beq_self_eq_true _
  have hc0 : (0 : Int) ≤ (n : Int) := by omega
  have hc1 : (n : Int) ≤ (cap : Int) := by omega
  have hl1 : n < m := by omega
  have hl2 : n1 < m := by have := hn1.out; omega
  have hl1' : (n : Int) < (m : Int) := by omega
  have hl2' : (n1 : Int) < (m : Int) := by omega
  have hnc : ¬ cap = 0 := by omega
  rw [hn1.out] at c2
  clear hR hx hl hm hcap
  go_enter Tryd.func16, Tryd.ntmps16
  go_wp2_with fail
  refine hS.out.mono ?_
  rintro e w1 ⟨rfl, d, rfl⟩
  have k1 := c1.out d
  have k2 := c2.out d
  go_wp2_with fail
  go_ret
  exact ⟨rfl, d, rfl⟩
end Go.Proofs.YtehaokdjdhejlaaDoor
