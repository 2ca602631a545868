/-
  Sums of floats from the left and by halves: the program's and the document's, up to which NaN it is.
-/
import Derived.Test.YtmfnjmgdindlaaaFop
import Derived.Test.YtmfnjmgdindlaaaNvm
import Derived.Deep.RegionHeld3
import Derived.Deep.RegionWith
namespace Go.Proofs.Ytmfnjmgdindlaaa
open Flo Go.RowKit Ieee
/-- a list of floats that can be read -/
structure Fv (w : World) (v : Value) (xs : List Nat) : Prop where
  sh : ∃ ao cap, v = .slice ao xs.length cap ∧ xs.length ≤ cap ∧ xs.length ≤ 140737488355328 ∧ (xs ≠ [] → ∃ b off, ao = some ⟨b, off, none⟩ ∧ b < w.heap.size ∧ ∀ i, i < xs.length → w.cell? ⟨b, off + i, none⟩ = some (.float .f64 (xs.getD i 0)))
  lim : ∀ x ∈ xs, x < 18446744073709551616
theorem Fv.keep {w w' : World} {v : Value} {xs : List Nat} (h : Fv w v xs) (hb : ∀ b, b < w.heap.size → w'.heap[b]? = w.heap[b]?) (hs : w.heap.size ≤ w'.heap.size) : Fv w' v xs := by
  obtain ⟨⟨ao, cap, e, h1, h2, h3⟩, hl⟩ := h
  refine ⟨⟨ao, cap, e, h1, h2, fun hx => ?_⟩, hl⟩
  obtain ⟨b, off, e2, h4, h5⟩ := h3 hx
  refine ⟨b, off, e2, by omega, fun i hi => ?_⟩
  rw [← h5 i hi]
  unfold World.cell?
  rw [show w'.heap[(⟨b, off + i, none⟩ : Addr).block]? = w.heap[(⟨b, off + i, none⟩ : Addr).block]? from hb b h4]
theorem Fv.below {w w' : World} {v : Value} {xs : List Nat} (h : Fv w v xs) (hb : Below w.heap.size w w') : Fv w' v xs := h.keep (fun b hk => hb.block b hk) hb.size
theorem Fv.drew {w : World} {v : Value} {xs : List Nat} (h : Fv w v xs) (q : Nat) : Fv (w.drewN q) v xs := h.keep (fun _ _ => rfl) (Nat.le_refl _)
theorem Fv.open {w : World} {v : Value} {xs : List Nat} (h : Fv w v xs) (hx : xs ≠ []) : ∃ b off cap, v = .slice (some ⟨b, off, none⟩) xs.length cap ∧ xs.length ≤ cap ∧ xs.length ≤ 140737488355328 ∧ b < w.heap.size ∧ ∀ i, i < xs.length → w.cell? ⟨b, off + i, none⟩ = some (.float .f64 (xs.getD i 0)) := by
  obtain ⟨⟨ao, cap, e, h1, h2, h3⟩, hl⟩ := h
  obtain ⟨b, off, rfl, h4, h5⟩ := h3 hx
  exact ⟨b, off, cap, e, h1, h2, h4, h5⟩
theorem getD_at {xs : List Nat} {i : Nat} (h : i < xs.length) : xs.getD i 0 = xs[i] := by simp [List.getD, h]
theorem Fv.at {w : World} {v : Value} {xs : List Nat} (h : Fv w v xs) (i : Nat) (hi : i < xs.length) : xs.getD i 0 < 18446744073709551616 := by
  rw [getD_at hi]; exact h.lim _ (List.getElem_mem hi)

/-- from the left -/
def lf : List Nat → Nat
  | [] => 0
  | x :: t => t.foldl (co .add) (bt x)
theorem lf_bt : ∀ xs, bt (lf xs) = lf xs
  | [] => by decide
  | x :: t => by
    unfold lf
    rcases List.eq_nil_or_concat t with rfl | ⟨a, y, rfl⟩
    · exact bt_bt x
    · show bt (List.foldl (co .add) (bt x) (a.concat y)) = List.foldl (co .add) (bt x) (a.concat y)
      rw [List.concat_eq_append, List.foldl_append]; exact bt_co _ _ _
theorem lf_snoc {a : List Nat} (h : a ≠ []) (x : Nat) : lf (a ++ [x]) = co .add (lf a) x := by
  cases a with
  | nil => exact absurd rfl h
  | cons y t => simp [lf, List.foldl_append]
theorem lf_take {xs : List Nat} {i : Nat} (h0 : 0 < i) (h : i < xs.length) : lf (xs.take (i + 1)) = co .add (lf (xs.take i)) (xs.getD i 0) := by
  rw [List.take_succ_eq_append_getElem h, lf_snoc (fun e => by have := congrArg List.length e; rw [List.length_take, Nat.min_eq_left (by omega)] at this; simp at this; omega), getD_at h]
theorem lf_one (x : Nat) : lf [x] = bt x := rfl
theorem lf_first {xs : List Nat} (h : 0 < xs.length) : lf (xs.take 1) = bt (xs.getD 0 0) := by
  cases xs with
  | nil => simp at h
  | cons a t => rfl
/-- by halves -/
def pf : Nat → List Nat → Nat
  | 0, xs => lf xs
  | f + 1, xs => if xs.length < 2 then lf xs else co .add (pf f (xs.take (xs.length - xs.length / 2))) (pf f (xs.drop (xs.length - xs.length / 2)))
theorem pf_bt : ∀ f xs, bt (pf f xs) = pf f xs
  | 0, xs => lf_bt xs
  | f + 1, xs => by
    unfold pf
    split
    · exact lf_bt xs
    · exact bt_co _ _ _
def RFx (w : World) (r : Nat) (e : Ending) (w' : World) : Prop := ∃ x k, e = .returned (.float .f64 x) ∧ w' = w.drewN k ∧ x < 18446744073709551616 ∧ bt x = r
set_option maxRecDepth 100000 in
set_option maxHeartbeats 1000000 in
theorem pleft_0 (ao : Option Addr) (cap : Nat) (w : World) :
    Calls Try.prog 23 #[.slice ao 0 cap] w (RFx w 0) := by
  go_enter Try.func23, Try.ntmps23
  go_wp2_with fail
  go_ret
  exact ⟨0, 0, rfl, rfl, by decide, by decide⟩
set_option maxRecDepth 100000 in
set_option maxHeartbeats 1000000 in
theorem pleft_1 (b off cap x : Nat) (w : World) (_hc : 1 ≤ cap)  (c0 : w.cell? ⟨b, off, none⟩ = some (.float .f64 x)) (hl : Hid (x < 18446744073709551616)) :
    Calls Try.prog 23 #[.slice (some ⟨b, off, none⟩) 1 cap] w (RFx w (bt x)) := by
  go_enter Try.func23, Try.ntmps23
  go_wp2_with fail
  all_goals
    refine wp_loop_rounds 1 ?_
    rw [rounds_succ]
    go_wp2_with fail
    go_ret
    exact ⟨x, 0, rfl, rfl, hl.out, rfl⟩
set_option maxRecDepth 100000 in
set_option maxHeartbeats 1000000 in
theorem pleft_n (b off N K cap : Nat) (xs : List Nat) (w : World) (hN : Hid (xs.length = N)) (hK : (N : Int) - 1 = (K : Int)) (hK0 : 0 < K) (hc : N ≤ cap) (hc2 : N ≤ 140737488355328) (h : Hid (∀ i, i < xs.length → w.cell? ⟨b, off + i, none⟩ = some (.float .f64 (xs.getD i 0)))) (hl : Hid (∀ i, i < xs.length → xs.getD i 0 < 18446744073709551616)) :
    Calls Try.prog 23 #[.slice (some ⟨b, off, none⟩) N cap] w (RFx w (lf xs)) := by
  have hN0 : 0 < N := by omega
  have hNz : ((N : Int) == 0) = false := beq_eq_false_iff_ne.2 (by omega)
  have hcap : ¬ cap = 1 := by omega
  have c0 := h.out 0 (by rw [hN.out]; exact hN0)
  have l0 : Hid (xs.getD 0 0 < 18446744073709551616) := hl.out 0 (by rw [hN.out]; exact hN0)
  have f0 : Hid (bt (xs.getD 0 0) = lf (xs.take 1)) := (lf_first (by rw [hN.out]; exact hN0)).symm
  rw [Nat.add_zero] at c0
  generalize xs.getD 0 0 = x0 at c0 l0 f0
  have ha := @run_fadd Try.prog
  go_enter Try.func23, Try.ntmps23
  go_wp2_with fail
  clear c0
  go_loopw [3, 15] (fun ss si wr => ∃ (i s q : Nat), i ≤ K ∧ si = .int .i64 (i : Int) ∧ ss = .float .f64 s ∧ Hid (s < 18446744073709551616) ∧ Hid (bt s = lf (xs.take (i + 1))) ∧ Hid (wr = w.drewN q)) (fun _ si _ => K - (intOf si).toNat)
  case atStart => exact ⟨0, x0, 0, Nat.zero_le _, rfl, rfl, l0, f0, rfl⟩
  case round =>
    obtain ⟨i, s, q, hi, rfl, rfl, hs, hb, hw⟩ := hrel
    by_cases hlt : i < K
    · have hlt' : (i : Int) < (K : Int) := by omega
      have hix : i + 1 < xs.length := by rw [hN.out]; omega
      have c1 : wr.cell? ⟨b, off + 1 + i, none⟩ = some (.float .f64 (xs.getD (i + 1) 0)) := by
        rw [hw.out, Nat.add_assoc, Nat.add_comm 1 i]; exact h.out (i + 1) hix
      have hx : Hid (lf (xs.take (i + 1 + 1)) = co .add (lf (xs.take (i + 1))) (xs.getD (i + 1) 0)) := lf_take (by omega) hix
      generalize xs.getD (i + 1) 0 = x at c1 hx
      have hnew : Hid (∀ W, bt (fr .add s x W) = lf (xs.take (i + 1 + 1))) := fun W => by
        rw [bt_fr, hx.out, ← hb.out]; exact co_of_left (bt_bt s).symm
      have hfl : Hid (∀ W, fr .add s x W < 18446744073709551616) := fun W => fr_lt _ _ _ W
      clear hx hb
      go_wp2_with fail
      go_roundw
      case rel => exact ⟨i + 1, _, q + fk .add s x, by omega, by go_num, rfl, hfl.out _, hnew.out _, by show _ = _; rw [hw.out, World.drewN_drewN]⟩
      case measure => simp [intOf]; omega
    · have hlt' : decide ((i : Int) < (K : Int)) = false := decide_eq_false (by omega)
      have hfin : Hid (bt s = lf xs) := by
        have := hb.out
        rw [List.take_of_length_le (by rw [hN.out]; omega)] at this
        exact this
      clear hb
      go_wp2_with fail
      go_ret
      exact ⟨s, q, rfl, hw.out, hs.out, hfin.out⟩
theorem pleft_c (v : Value) (xs : List Nat) (w : World) (h : Fv w v xs) : Calls Try.prog 23 #[v] w (RFx w (lf xs)) := by
  by_cases hx : xs = []
  · subst hx
    obtain ⟨⟨ao, cap, rfl, _⟩, _⟩ := h
    exact pleft_0 ao cap w
  · obtain ⟨b, off, cap, rfl, h1, h2, _, h3⟩ := h.open hx
    have h0 : 0 < xs.length := List.length_pos_iff.2 hx
    by_cases h4 : xs.length = 1
    · obtain ⟨x, rfl⟩ := List.length_eq_one_iff.1 h4
      exact pleft_1 b off cap x w h1 (h3 0 (by simp)) (h.lim x (by simp))
    · exact pleft_n b off xs.length (xs.length - 1) cap xs w rfl (by omega) (by omega) h1 h2 h3 h.at
set_option maxRecDepth 100000 in
set_option maxHeartbeats 1000000 in
theorem rleft_0 (ao : Option Addr) (cap : Nat) (w : World) :
    Calls Try.prog 15 #[.slice ao 0 cap] w (RFx w 0) := by
  go_enter Try.func15, Try.ntmps15
  go_wp2_with fail
  go_ret
  exact ⟨0, 0, rfl, rfl, by decide, by decide⟩
set_option maxRecDepth 100000 in
set_option maxHeartbeats 1000000 in
theorem rleft_1 (b off cap x : Nat) (w : World) (_hc : 1 ≤ cap)  (c0 : w.cell? ⟨b, off, none⟩ = some (.float .f64 x)) (hl : Hid (x < 18446744073709551616)) :
    Calls Try.prog 15 #[.slice (some ⟨b, off, none⟩) 1 cap] w (RFx w (bt x)) := by
  go_enter Try.func15, Try.ntmps15
  go_wp2_with fail
  all_goals
    refine wp_loop_rounds 1 ?_
    rw [rounds_succ]
    go_wp2_with fail
    go_ret
    exact ⟨x, 0, rfl, rfl, hl.out, rfl⟩
set_option maxRecDepth 100000 in
set_option maxHeartbeats 1000000 in
theorem rleft_n (b off N K cap : Nat) (xs : List Nat) (w : World) (hN : Hid (xs.length = N)) (hK : (N : Int) - 1 = (K : Int)) (hK0 : 0 < K) (hc : N ≤ cap) (hc2 : N ≤ 140737488355328) (h : Hid (∀ i, i < xs.length → w.cell? ⟨b, off + i, none⟩ = some (.float .f64 (xs.getD i 0)))) (hl : Hid (∀ i, i < xs.length → xs.getD i 0 < 18446744073709551616)) :
    Calls Try.prog 15 #[.slice (some ⟨b, off, none⟩) N cap] w (RFx w (lf xs)) := by
  have hN0 : 0 < N := by omega
  have hNz : ((N : Int) == 0) = false := beq_eq_false_iff_ne.2 (by omega)
  have hcap : ¬ cap = 1 := by omega
  have c0 := h.out 0 (by rw [hN.out]; exact hN0)
  have l0 : Hid (xs.getD 0 0 < 18446744073709551616) := hl.out 0 (by rw [hN.out]; exact hN0)
  have f0 : Hid (bt (xs.getD 0 0) = lf (xs.take 1)) := (lf_first (by rw [hN.out]; exact hN0)).symm
  rw [Nat.add_zero] at c0
  generalize xs.getD 0 0 = x0 at c0 l0 f0
  have ha := @run_fadd Try.prog
  go_enter Try.func15, Try.ntmps15
  go_wp2_with fail
  clear c0
  go_loopw [3, 15] (fun ss si wr => ∃ (i s q : Nat), i ≤ K ∧ si = .int .i64 (i : Int) ∧ ss = .float .f64 s ∧ Hid (s < 18446744073709551616) ∧ Hid (bt s = lf (xs.take (i + 1))) ∧ Hid (wr = w.drewN q)) (fun _ si _ => K - (intOf si).toNat)
  case atStart => exact ⟨0, x0, 0, Nat.zero_le _, rfl, rfl, l0, f0, rfl⟩
  case round =>
    obtain ⟨i, s, q, hi, rfl, rfl, hs, hb, hw⟩ := hrel
    by_cases hlt : i < K
    · have hlt' : (i : Int) < (K : Int) := by omega
      have hix : i + 1 < xs.length := by rw [hN.out]; omega
      have c1 : wr.cell? ⟨b, off + 1 + i, none⟩ = some (.float .f64 (xs.getD (i + 1) 0)) := by
        rw [hw.out, Nat.add_assoc, Nat.add_comm 1 i]; exact h.out (i + 1) hix
      have hx : Hid (lf (xs.take (i + 1 + 1)) = co .add (lf (xs.take (i + 1))) (xs.getD (i + 1) 0)) := lf_take (by omega) hix
      generalize xs.getD (i + 1) 0 = x at c1 hx
      have hnew : Hid (∀ W, bt (fr .add s x W) = lf (xs.take (i + 1 + 1))) := fun W => by
        rw [bt_fr, hx.out, ← hb.out]; exact co_of_left (bt_bt s).symm
      have hfl : Hid (∀ W, fr .add s x W < 18446744073709551616) := fun W => fr_lt _ _ _ W
      clear hx hb
      go_wp2_with fail
      go_roundw
      case rel => exact ⟨i + 1, _, q + fk .add s x, by omega, by go_num, rfl, hfl.out _, hnew.out _, by show _ = _; rw [hw.out, World.drewN_drewN]⟩
      case measure => simp [intOf]; omega
    · have hlt' : decide ((i : Int) < (K : Int)) = false := decide_eq_false (by omega)
      have hfin : Hid (bt s = lf xs) := by
        have := hb.out
        rw [List.take_of_length_le (by rw [hN.out]; omega)] at this
        exact this
      clear hb
      go_wp2_with fail
      go_ret
      exact ⟨s, q, rfl, hw.out, hs.out, hfin.out⟩
theorem rleft_c (v : Value) (xs : List Nat) (w : World) (h : Fv w v xs) : Calls Try.prog 15 #[v] w (RFx w (lf xs)) := by
  by_cases hx : xs = []
  · subst hx
    obtain ⟨⟨ao, cap, rfl, _⟩, _⟩ := h
    exact rleft_0 ao cap w
  · obtain ⟨b, off, cap, rfl, h1, h2, _, h3⟩ := h.open hx
    have h0 : 0 < xs.length := List.length_pos_iff.2 hx
    by_cases h4 : xs.length = 1
    · obtain ⟨x, rfl⟩ := List.length_eq_one_iff.1 h4
      exact rleft_1 b off cap x w h1 (h3 0 (by simp)) (h.lim x (by simp))
    · exact rleft_n b off xs.length (xs.length - 1) cap xs w rfl (by omega) (by omega) h1 h2 h3 h.at
theorem RFx.mk {w : World} {r x k : Nat} (hx : x < 18446744073709551616) (hr : bt x = r) : RFx w r (.returned (.float .f64 x)) (w.drewN k) := ⟨x, k, rfl, rfl, hx, hr⟩
set_option maxHeartbeats 400000 in
theorem pLeft_c (v : Value) (xs : List Nat) (w : World) (h : Hid (Fv w v xs)) : Calls Try.prog 9 #[v] w (RFx w (lf xs)) := by
  have hc : Hid (Calls Try.prog 23 #[v] w (RFx w (lf xs))) := pleft_c v xs w h.out
  go_enter Try.func9, Try.ntmps9
  go_wp2_with fail
  refine hc.out.mono ?_
  rintro e w' ⟨x, k, rfl, rfl, hx, hb⟩
  have hxH : Hid (x < 18446744073709551616) := hx
  clear hx hc
  go_wp2_with fail
  go_ret
  exact RFx.mk hxH.out hb
theorem Fv.take {w : World} {b off cap n : Nat} {xs : List Nat} (h : Fv w (.slice (some ⟨b, off, none⟩) xs.length cap) xs) (hn : n ≤ xs.length) : Fv w (.slice (some ⟨b, off, none⟩) n cap) (xs.take n) := by
  obtain ⟨⟨ao, cap', e, h1, h2, h3⟩, hl⟩ := h
  cases e
  have e1 : (xs.take n).length = n := by simp [hn]
  refine ⟨⟨_, cap, by rw [e1], by omega, by omega, fun hx => ?_⟩, fun x hx => hl x (List.mem_of_mem_take hx)⟩
  have hx' : xs ≠ [] := fun e => hx (by rw [e]; simp)
  obtain ⟨b', off', e2, h4, h5⟩ := h3 hx'
  cases e2
  refine ⟨b, off, rfl, h4, fun i hi => ?_⟩
  rw [e1] at hi
  have h6 := h5 i (by omega)
  rw [h6, getD_at (by omega), getD_at (by omega)]
  simp
theorem Fv.drop {w : World} {b off cap n : Nat} {xs : List Nat} (h : Fv w (.slice (some ⟨b, off, none⟩) xs.length cap) xs) (hn : n ≤ xs.length) : Fv w (.slice (some ⟨b, off + n, none⟩) (xs.length - n) (cap - n)) (xs.drop n) := by
  obtain ⟨⟨ao, cap', e, h1, h2, h3⟩, hl⟩ := h
  cases e
  have e1 : (xs.drop n).length = xs.length - n := by simp
  refine ⟨⟨_, cap - n, by rw [e1], by omega, by omega, fun hx => ?_⟩, fun x hx => hl x (List.mem_of_mem_drop hx)⟩
  have hx' : xs ≠ [] := fun e => hx (by rw [e]; simp)
  obtain ⟨b', off', e2, h4, h5⟩ := h3 hx'
  cases e2
  refine ⟨b, off + n, rfl, h4, fun i hi => ?_⟩
  rw [e1] at hi
  have h6 := h5 (n + i) (by omega)
  rw [Nat.add_assoc, h6, getD_at (by omega), getD_at (by omega)]
  simp
set_option maxRecDepth 100000 in
set_option maxHeartbeats 2000000 in
theorem ppair_n (b off N M H cap R1 R2 : Nat) (w : World) (hN : ¬ (N : Int) < 2) (hM : (N : Int) / 2 = (M : Int)) (hH : (N : Int) - (M : Int) = (H : Int)) (hc : N ≤ cap) (hc2 : N ≤ 140737488355328)
    (k1 : Hid (∀ W q, W = w.drewN q → Calls Try.prog 24 #[.slice (some ⟨b, off, none⟩) H cap] W (RFx W R1))) (k2 : Hid (∀ W q, W = w.drewN q → Calls Try.prog 24 #[.slice (some ⟨b, off + H, none⟩) (N - H) (cap - H)] W (RFx W R2))) (hR : Hid (bt R1 = R1 ∧ bt R2 = R2)) :
    Calls Try.prog 24 #[.slice (some ⟨b, off, none⟩) N cap] w (RFx w (co .add R1 R2)) := by
  have hN2 : decide ((N : Int) < 2) = false := decide_eq_false hN
  have hN0 : ((N : Int) == 0) = false := beq_eq_false_iff_ne.2 (by omega)
  have hN1 : ((N : Int) == 1) = false := beq_eq_false_iff_ne.2 (by omega)
  have hHN : H < N := by omega
  have hHc : ¬ cap = H := by omega
  have hHc2 : ¬ cap - H = 0 := by omega
  have ha := @run_fadd Try.prog
  have hend : Hid (∀ (x y q : Nat) (W : World), bt x = R1 → bt y = R2 → W = w.drewN q → RFx w (co .add R1 R2) (.returned (.float .f64 (fr .add x y W))) (W.drewN (fk .add x y))) := fun x y q W h1 h2 h3 => by
    refine ⟨_, q + fk .add x y, rfl, by rw [h3, World.drewN_drewN], fr_lt _ _ _ _, ?_⟩
    rw [bt_fr]; exact co_of (by rw [h1]; exact hR.out.1.symm) (by rw [h2]; exact hR.out.2.symm)
  have hI1 : (H : Int) ≤ (cap : Int) := by omega
  have hI2 : (H : Int) ≤ (N : Int) := by omega
  have hI3 : (N : Int) ≤ (cap : Int) := by omega
  have hI4 : (0 : Int) ≤ (H : Int) := by omega
  have hW : IntKind.i64.wrap (H : Int) = (H : Int) := by rw [IntKind.wrap_i64]; omega
  have hW2 : IntKind.i64.wrap (N : Int) = (N : Int) := by rw [IntKind.wrap_i64]; omega
  have hD : Hid (w.drew = w.drewN 1) := rfl
  have k1' : Hid (Calls Try.prog 24 #[.slice (some ⟨b, off, none⟩) H cap] w.drew (RFx w.drew R1)) := k1.out _ 1 hD.out
  have hflag : Hid True := True.intro
  clear hR hN k1
  go_enter Try.func24, Try.ntmps24
  go_wp2_with fail
  go_region_with ((first
    | (go_at_call 24
       clear hflag
       refine k1'.out.mono ?_
       rintro e w1 ⟨x, q1, rfl, e1, hx, hb1⟩
       have e1H : Hid (w1 = w.drewN (1 + q1)) := by show _ = _; rw [e1, hD.out, World.drewN_drewN]
       have hb1H : Hid (bt x = R1) := hb1
       clear e1 hx hb1)
    | (go_at_call 24
       refine (k2.out _ _ e1H.out).mono ?_
       rintro e w2 ⟨y, q2, rfl, e2, hy, hb2⟩
       have e2H : Hid (w2 = w.drewN (1 + q1 + q2)) := by show _ = _; rw [e2, e1H.out, World.drewN_drewN]
       have hb2H : Hid (bt y = R2) := hb2
       clear e2 hy hb2)))
  all_goals
    go_wp2_with fail
    go_ret
    exact hend.out x y _ _ hb1H.out hb2H.out e2H.out
set_option maxRecDepth 100000 in
set_option maxHeartbeats 1000000 in
theorem ppair_0 (ao : Option Addr) (cap : Nat) (w : World) : Calls Try.prog 24 #[.slice ao 0 cap] w (RFx w 0) := by
  go_enter Try.func24, Try.ntmps24
  go_wp2_with fail
  go_ret
  exact ⟨0, 0, rfl, rfl, by decide, by decide⟩
set_option maxRecDepth 100000 in
set_option maxHeartbeats 1000000 in
theorem ppair_1 (b off cap x : Nat) (w : World) (h : Hid (Fv w (.slice (some ⟨b, off, none⟩) 1 cap) [x])) (hl : Hid (x < 18446744073709551616)) :
    Calls Try.prog 24 #[.slice (some ⟨b, off, none⟩) 1 cap] w (RFx w (bt x)) := by
  have c0 : w.cell? ⟨b, off, none⟩ = some (.float .f64 x) := by
    obtain ⟨b', off', cap', e, _, _, _, h3⟩ := h.out.open (by simp)
    cases e
    exact h3 0 (by simp)
  go_enter Try.func24, Try.ntmps24
  go_wp2_with fail
  go_ret
  exact ⟨x, 0, rfl, rfl, hl.out, rfl⟩
theorem ppair_c : ∀ (f : Nat) (v : Value) (xs : List Nat) (w : World), Fv w v xs → xs.length ≤ f → Calls Try.prog 24 #[v] w (RFx w (pf f xs)) := by
  intro f
  induction f with
  | zero =>
    intro v xs w h hf
    have : xs = [] := List.eq_nil_of_length_eq_zero (by omega)
    subst this
    obtain ⟨⟨ao, cap, rfl, _⟩, _⟩ := h
    exact ppair_0 ao cap w
  | succ f ih =>
    intro v xs w h hf
    by_cases hx : xs = []
    · subst hx
      obtain ⟨⟨ao, cap, rfl, _⟩, _⟩ := h
      exact ppair_0 ao cap w
    · obtain ⟨b, off, cap, rfl, h1, h2, _, h3⟩ := h.open hx
      have h0 : 0 < xs.length := List.length_pos_iff.2 hx
      by_cases h4 : xs.length = 1
      · obtain ⟨x, rfl⟩ := List.length_eq_one_iff.1 h4
        exact ppair_1 b off cap x w h (h.lim x (by simp))
      · have e : pf (f + 1) xs = co .add (pf f (xs.take (xs.length - xs.length / 2))) (pf f (xs.drop (xs.length - xs.length / 2))) := by
          show (if _ then _ else _) = _
          rw [if_neg (by omega)]
        rw [e]
        refine ppair_n b off xs.length (xs.length / 2) (xs.length - xs.length / 2) cap _ _ w (by omega) (by omega) (by omega) h1 h2 ?_ ?_ ⟨pf_bt _ _, pf_bt _ _⟩
        · intro W q hW
          subst hW
          exact ih _ _ _ ((h.drew q).take (by omega)) (by rw [List.length_take]; omega)
        · intro W q hW
          subst hW
          exact ih _ _ _ ((h.drew q).drop (by omega)) (by rw [List.length_drop]; omega)
set_option maxRecDepth 100000 in
set_option maxHeartbeats 2000000 in
theorem rpair_n (b off N M H cap R1 R2 : Nat) (w : World) (hN : ¬ (N : Int) < 2) (hM : (N : Int) / 2 = (M : Int)) (hH : (N : Int) - (M : Int) = (H : Int)) (hc : N ≤ cap) (hc2 : N ≤ 140737488355328)
    (k1 : Hid (∀ W q, W = w.drewN q → Calls Try.prog 16 #[.slice (some ⟨b, off, none⟩) H cap] W (RFx W R1))) (k2 : Hid (∀ W q, W = w.drewN q → Calls Try.prog 16 #[.slice (some ⟨b, off + H, none⟩) (N - H) (cap - H)] W (RFx W R2))) (hR : Hid (bt R1 = R1 ∧ bt R2 = R2)) :
    Calls Try.prog 16 #[.slice (some ⟨b, off, none⟩) N cap] w (RFx w (co .add R1 R2)) := by
  have hN2 : decide ((N : Int) < 2) = false := decide_eq_false hN
  have hN0 : ((N : Int) == 0) = false := beq_eq_false_iff_ne.2 (by omega)
  have hN1 : ((N : Int) == 1) = false := beq_eq_false_iff_ne.2 (by omega)
  have hHN : H < N := by omega
  have hHc : ¬ cap = H := by omega
  have hHc2 : ¬ cap - H = 0 := by omega
  have ha := @run_fadd Try.prog
  have hend : Hid (∀ (x y q : Nat) (W : World), bt x = R1 → bt y = R2 → W = w.drewN q → RFx w (co .add R1 R2) (.returned (.float .f64 (fr .add x y W))) (W.drewN (fk .add x y))) := fun x y q W h1 h2 h3 => by
    refine ⟨_, q + fk .add x y, rfl, by rw [h3, World.drewN_drewN], fr_lt _ _ _ _, ?_⟩
    rw [bt_fr]; exact co_of (by rw [h1]; exact hR.out.1.symm) (by rw [h2]; exact hR.out.2.symm)
  have hI1 : (H : Int) ≤ (cap : Int) := by omega
  have hI2 : (H : Int) ≤ (N : Int) := by omega
  have hI3 : (N : Int) ≤ (cap : Int) := by omega
  have hI4 : (0 : Int) ≤ (H : Int) := by omega
  have hW : IntKind.i64.wrap (H : Int) = (H : Int) := by rw [IntKind.wrap_i64]; omega
  have hW2 : IntKind.i64.wrap (N : Int) = (N : Int) := by rw [IntKind.wrap_i64]; omega
  have hD : Hid (w.drew = w.drewN 1) := rfl
  have k1' : Hid (Calls Try.prog 16 #[.slice (some ⟨b, off, none⟩) H cap] w.drew (RFx w.drew R1)) := k1.out _ 1 hD.out
  have hflag : Hid True := True.intro
  clear hR hN k1
  go_enter Try.func16, Try.ntmps16
  go_wp2_with fail
  go_region_with ((first
    | (go_at_call 16
       clear hflag
       refine k1'.out.mono ?_
       rintro e w1 ⟨x, q1, rfl, e1, hx, hb1⟩
       have e1H : Hid (w1 = w.drewN (1 + q1)) := by show _ = _; rw [e1, hD.out, World.drewN_drewN]
       have hb1H : Hid (bt x = R1) := hb1
       clear e1 hx hb1)
    | (go_at_call 16
       refine (k2.out _ _ e1H.out).mono ?_
       rintro e w2 ⟨y, q2, rfl, e2, hy, hb2⟩
       have e2H : Hid (w2 = w.drewN (1 + q1 + q2)) := by show _ = _; rw [e2, e1H.out, World.drewN_drewN]
       have hb2H : Hid (bt y = R2) := hb2
       clear e2 hy hb2)))
  all_goals
    go_wp2_with fail
    go_ret
    exact hend.out x y _ _ hb1H.out hb2H.out e2H.out
set_option maxRecDepth 100000 in
set_option maxHeartbeats 1000000 in
theorem rpair_0 (ao : Option Addr) (cap : Nat) (w : World) : Calls Try.prog 16 #[.slice ao 0 cap] w (RFx w 0) := by
  have hc : Hid (Calls Try.prog 15 #[.slice ao 0 cap] w (RFx w 0)) := rleft_0 ao cap w
  go_enter Try.func16, Try.ntmps16
  go_wp2_with fail
  refine hc.out.mono ?_
  rintro e w' ⟨x, k, rfl, rfl, hx, hb⟩
  have hxH : Hid (x < 18446744073709551616) := hx
  have hbH : Hid (bt x = 0) := hb
  clear hx hc hb
  go_wp2_with fail
  go_ret
  exact RFx.mk hxH.out hbH.out
set_option maxRecDepth 100000 in
set_option maxHeartbeats 1000000 in
theorem rpair_1 (b off cap x : Nat) (w : World) (h : Hid (Fv w (.slice (some ⟨b, off, none⟩) 1 cap) [x])) (hl : Hid (x < 18446744073709551616)) :
    Calls Try.prog 16 #[.slice (some ⟨b, off, none⟩) 1 cap] w (RFx w (bt x)) := by
  have hc : Hid (Calls Try.prog 15 #[.slice (some ⟨b, off, none⟩) 1 cap] w (RFx w (bt x))) := rleft_c _ _ w h.out
  have hl' := hl.out
  clear hl hl'
  go_enter Try.func16, Try.ntmps16
  go_wp2_with fail
  refine hc.out.mono ?_
  rintro e w' ⟨y, k, rfl, rfl, hx, hb⟩
  have hxH : Hid (y < 18446744073709551616) := hx
  have hbH : Hid (bt y = bt x) := hb
  clear hx hc hb
  go_wp2_with fail
  go_ret
  exact RFx.mk hxH.out hbH.out
theorem rpair_c : ∀ (f : Nat) (v : Value) (xs : List Nat) (w : World), Fv w v xs → xs.length ≤ f → Calls Try.prog 16 #[v] w (RFx w (pf f xs)) := by
  intro f
  induction f with
  | zero =>
    intro v xs w h hf
    have : xs = [] := List.eq_nil_of_length_eq_zero (by omega)
    subst this
    obtain ⟨⟨ao, cap, rfl, _⟩, _⟩ := h
    exact rpair_0 ao cap w
  | succ f ih =>
    intro v xs w h hf
    by_cases hx : xs = []
    · subst hx
      obtain ⟨⟨ao, cap, rfl, _⟩, _⟩ := h
      exact rpair_0 ao cap w
    · obtain ⟨b, off, cap, rfl, h1, h2, _, h3⟩ := h.open hx
      have h0 : 0 < xs.length := List.length_pos_iff.2 hx
      by_cases h4 : xs.length = 1
      · obtain ⟨x, rfl⟩ := List.length_eq_one_iff.1 h4
        exact rpair_1 b off cap x w h (h.lim x (by simp))
      · have e : pf (f + 1) xs = co .add (pf f (xs.take (xs.length - xs.length / 2))) (pf f (xs.drop (xs.length - xs.length / 2))) := by
          show (if _ then _ else _) = _
          rw [if_neg (by omega)]
        rw [e]
        refine rpair_n b off xs.length (xs.length / 2) (xs.length - xs.length / 2) cap _ _ w (by omega) (by omega) (by omega) h1 h2 ?_ ?_ ⟨pf_bt _ _, pf_bt _ _⟩
        · intro W q hW
          subst hW
          exact ih _ _ _ ((h.drew q).take (by omega)) (by rw [List.length_take]; omega)
        · intro W q hW
          subst hW
          exact ih _ _ _ ((h.drew q).drop (by omega)) (by rw [List.length_drop]; omega)
set_option maxHeartbeats 400000 in
theorem pPair_c (f : Nat) (v : Value) (xs : List Nat) (w : World) (h : Hid (Fv w v xs)) (hf : Hid (xs.length ≤ f)) : Calls Try.prog 10 #[v] w (RFx w (pf f xs)) := by
  have hc : Hid (Calls Try.prog 24 #[v] w (RFx w (pf f xs))) := ppair_c f v xs w h.out hf.out
  go_enter Try.func10, Try.ntmps10
  go_wp2_with fail
  refine hc.out.mono ?_
  rintro e w' ⟨x, k, rfl, rfl, hx, hb⟩
  have hxH : Hid (x < 18446744073709551616) := hx
  clear hx hc
  go_wp2_with fail
  go_ret
  exact RFx.mk hxH.out hb
end Go.Proofs.Ytmfnjmgdindlaaa
