/-
  Package sums: classes, finite, Exact.
-/
import Derived.Test.YtmfnjmgdindlaaaWq9
import Derived.Test.YtmfnjmgdindlaaaKp9
import Derived.Laws.Rows
import Derived.Laws.CopyOwn
namespace Go.Proofs.Ytmfnjmgdindlaaa
open Flo Go.RowKit Ari
/-- ten bools in a row -/
def ba (f : Nat → Bool) : Array Value := #[.bool (f 0), .bool (f 1), .bool (f 2), .bool (f 3), .bool (f 4), .bool (f 5), .bool (f 6), .bool (f 7), .bool (f 8), .bool (f 9)]
theorem ba_at (f : Nat → Bool) (C : Nat) (h : C < 10) : (ba f)[C]? = some (.bool (f C)) := by
  match C, h with
  | 0, _ => rfl | 1, _ => rfl | 2, _ => rfl | 3, _ => rfl | 4, _ => rfl | 5, _ => rfl | 6, _ => rfl | 7, _ => rfl | 8, _ => rfl | 9, _ => rfl
theorem ba_set (f : Nat → Bool) (C : Nat) (h : C < 10) : (ba f).setIfInBounds C (.bool true) = ba (fun j => if j = C then true else f j) := by
  match C, h with
  | 0, _ => rfl | 1, _ => rfl | 2, _ => rfl | 3, _ => rfl | 4, _ => rfl | 5, _ => rfl | 6, _ => rfl | 7, _ => rfl | 8, _ => rfl | 9, _ => rfl
theorem ba_all (f : Nat → Bool) : (ba f).all (·.oneCell') = true := by unfold ba; simp [Value.oneCell']
theorem ba_congr {f g : Nat → Bool} (h : ∀ c, f c = g c) : ba f = ba g := by
  have : f = g := funext h
  rw [this]
/-- which classes there are -/
def hs (xs : List Nat) (c : Nat) : Bool := xs.any (fun x => cls x == (c : Int))
theorem hs_snoc {xs : List Nat} {i : Nat} (h : i < xs.length) (c C : Nat) (hC : cls (xs.getD i 0) = (C : Int)) : hs (xs.take (i + 1)) c = if c = C then true else hs (xs.take i) c := by
  unfold hs
  rw [List.take_succ_eq_append_getElem h, List.any_append]
  rw [getD_at h] at hC
  simp only [List.any_cons, List.any_nil, Bool.or_false, hC]
  by_cases e : c = C
  · subst e; simp
  · rw [if_neg e]
    have : ((C : Int) == (c : Int)) = false := beq_eq_false_iff_ne.2 (by omega)
    rw [this, Bool.or_false]
theorem cls_nat (x : Nat) : ∃ C : Nat, cls x = (C : Int) ∧ C < 10 := by
  have h : 0 ≤ cls x ∧ cls x ≤ 9 := by
    have h3 : ∀ b, 5 ≤ cab b ∧ cab b ≤ 9 := fun b => by unfold cab; split <;> (try split) <;> (try split) <;> (try split) <;> omega
    unfold cls
    have a := h3 (bt x)
    have b := h3 (bt x % 9223372036854775808)
    split <;> omega
  exact ⟨(cls x).toNat, by omega, by omega⟩
theorem Fv.each {w : World} {v : Value} {xs : List Nat} (h : Fv w v xs) : ∃ ao cap, v = .slice ao xs.length cap ∧ xs.length ≤ 140737488355328 ∧ ∀ i, i < xs.length → ∃ b off, ao = some ⟨b, off, none⟩ ∧ b < w.heap.size ∧ w.cell? ⟨b, off + i, none⟩ = some (.float .f64 (xs.getD i 0)) := by
  obtain ⟨⟨ao, cap, e, h1, h2, h3⟩, hl⟩ := h
  refine ⟨ao, cap, e, h2, fun i hi => ?_⟩
  obtain ⟨b, off, e2, h4, h5⟩ := h3 (fun e => by rw [e] at hi; simp at hi)
  exact ⟨b, off, e2, h4, h5 i hi⟩
theorem infoB : (Try.prog.info? 43).map (·.size) = some 10 := by kernel_rfl
set_option maxRecDepth 100000 in
set_option maxHeartbeats 1000000 in
theorem classes_n (ao : Option Addr) (n cap : Nat) (xs : List Nat) (w : World) (hn : Hid (xs.length = n)) (hn2 : n ≤ 140737488355328) (hc : Hid (∀ i, i < n → ∃ b off, ao = some ⟨b, off, none⟩ ∧ b < w.heap.size ∧ w.cell? ⟨b, off + i, none⟩ = some (.float .f64 (xs.getD i 0)))) (hl : Hid (∀ i, i < n → xs.getD i 0 < 18446744073709551616)) :
    Calls Try.prog 26 #[.slice ao n cap] w fun e w' => e = .returned (.agg (ba (hs xs))) ∧ Below w.heap.size w w' := by
  have z1 : Hid (((w.alloc (.cells (ba (hs (xs.take 0))) 43)).alloc (.cells (ba (hs (xs.take 0))) 43)).heap[w.heap.size + 1]? = some (.cells (ba (hs (xs.take 0))) 43 (0, 0))) := heap_alloc2_new _ _ _
  have z2 : Hid (((w.alloc (.cells (ba (hs (xs.take 0))) 43)).alloc (.cells (ba (hs (xs.take 0))) 43)).heap[w.heap.size]? = some (.cells (ba (hs (xs.take 0))) 43 (0, 0))) := heap_alloc2_old _ _ _
  have z3 : Hid (Below w.heap.size w ((w.alloc (.cells (ba (hs (xs.take 0))) 43)).alloc (.cells (ba (hs (xs.take 0))) 43))) := ((Below.refl _ _).alloc (Nat.le_refl _) _).alloc (by simp) _
  have hz : Hid (ba (hs (xs.take 0)) = #[.bool false, .bool false, .bool false, .bool false, .bool false, .bool false, .bool false, .bool false, .bool false, .bool false]) := rfl
  generalize hb0 : ba (hs (xs.take 0)) = B0 at *
  have hb0H : Hid (ba (hs (xs.take 0)) = B0) := hb0
  clear hb0
  go_enter Try.func26, Try.ntmps26
  go_wp2_with fail
  rw [← hz.out]
  generalize (w.alloc (.cells B0 43)).alloc (.cells B0 43) = w0 at *
  obtain ⟨g, hg⟩ : ∃ g : Nat, Hid (w.heap.size + 1 = g) := ⟨_, (rfl : _ = _)⟩
  obtain ⟨g0, hg0⟩ : ∃ g : Nat, Hid (w.heap.size = g) := ⟨_, (rfl : _ = _)⟩
  rw [hg.out] at z1 ⊢
  rw [hg0.out] at z2 z3 hc ⊢
  have hgg : g0 ≠ g := by have h1 := hg.out; have h2 := hg0.out; omega
  have hlt0 : g0 < g := by have h1 := hg.out; have h2 := hg0.out; omega
  have hB0 : Hid (B0.size = 10) := by show _ = _; rw [hz.out]; rfl
  clear hz
  go_loopw [8] (fun si wr => ∃ (i : Nat), i ≤ n ∧ si = .int .i64 (i : Int) ∧ Hid (wr.heap[g]? = some (.cells (ba (hs (xs.take i))) 43 (0, 0))) ∧ Hid (wr.heap[g0]? = some (.cells B0 43 (0, 0))) ∧ Hid (Below g0 w wr)) (fun si _ => n - (intOf si).toNat)
  case atStart => exact ⟨0, Nat.zero_le _, rfl, by rw [hb0H.out]; exact z1, z2, z3⟩
  case round =>
    obtain ⟨i, hi, rfl, h1, h2, h3⟩ := hrel
    clear z1 z2 z3
    by_cases hlt : i < n
    · have hlt' : (i : Int) < (n : Int) := by omega
      obtain ⟨b, off, rfl, hb, hcell⟩ := hc.out i hlt
      have c1 := (h3.out.cell (p := ⟨b, off + i, none⟩) hb).trans hcell
      have hxl := hl.out i hlt
      obtain ⟨C, hC, hC10⟩ := cls_nat (xs.getD i 0)
      have hnew : Hid (∀ c, hs (xs.take (i + 1)) c = if c = C then true else hs (xs.take i) c) := fun c => hs_snoc (by rw [hn.out]; exact hlt) c C hC
      have hcall : Hid (∀ W, Calls Try.prog 43 #[.float .f64 (xs.getD i 0)] W fun e w' => e = .returned (.int .i64 (C : Int)) ∧ W = w') := fun W => by
        have := class_c (xs.getD i 0) W hxl
        rw [hC] at this; exact this
      generalize xs.getD i 0 = x at c1 hcall
      have hC' : (C : Int) < 10 := by omega
      have c2 : wr.cell? ⟨g, C, none⟩ = some (.bool (hs (xs.take i) C)) := (cell_of_row wr g C _ _ _ h1.out).trans (ba_at _ C hC10)
      have c3 : wr.frozen? ⟨g, C, none⟩ = false := frozen_of_row wr g C _ _ h1.out
      have n1 : Hid ((wr.setCell ⟨g, C, none⟩ (.bool true)).heap[g]? = some (.cells (ba (hs (xs.take (i + 1)))) 43 (0, 0))) := by
        show _ = _
        rw [heap_setCell_same wr g C _ _ _ h1.out, ba_set _ C hC10, ba_congr (fun c => (hnew.out c).symm)]
      have n2 : Hid ((wr.setCell ⟨g, C, none⟩ (.bool true)).heap[g0]? = some (.cells B0 43 (0, 0))) := (heap_setCell_other wr _ g0 _ hgg).trans h2.out
      have n3 : Hid (Below g0 w (wr.setCell ⟨g, C, none⟩ (.bool true))) := h3.out.setCell (p := ⟨g, C, none⟩) (Nat.le_of_lt hlt0) _
      generalize hs (xs.take i) C = b0 at c2
      clear h1 h2 h3 hC hnew hcell
      go_wp2_with fail
      refine (hcall.out _).mono ?_
      rintro e w' ⟨rfl, rfl⟩
      clear hcall
      go_wp2_with fail
      go_roundw
      case rel => exact ⟨i + 1, by omega, by go_num, n1, n2, n3⟩
      case measure => simp [intOf]; omega
    · have hlt' : decide ((i : Int) < (n : Int)) = false := decide_eq_false (by omega)
      have h4 : Hid (wr.heap[g]? = some (.cells (ba (hs xs)) 43 (0, 0))) := by
        have := h1.out
        rw [List.take_of_length_le (by rw [hn.out]; omega)] at this
        exact this
      clear h1 hc hl hb0H
      have hR1 : Hid ((Try.prog.info? 43).map (·.size) = some (ba (hs xs)).size) := infoB
      have hR2 : Hid ((ba (hs xs)).size = 10) := rfl
      have hR3 : Hid ((ba (hs xs)).all (·.oneCell') = true) := ba_all _
      have h3' : Hid (Below w.heap.size w wr) := by rw [hg0.out]; exact h3.out
      have hg0' : Hid (w.heap.size ≤ g0) := Nat.le_of_eq hg0.out
      obtain ⟨R, hR⟩ : ∃ R, Hid (ba (hs xs) = R) := ⟨_, (rfl : _ = _)⟩
      rw [hR.out] at h4 hR1 hR2 hR3
      clear h3
      go_wp2_with (first
        | (refine wpList_load_row rfl 43 _ rfl g rfl 43 R (0, 0) _ h4.out Try.underlying43 rfl hR1.out ?_)
        | (refine wpList_store_row rfl 43 _ _ rfl g0 R rfl rfl 43 B0 h2.out hR1.out (hB0.out.trans hR2.out.symm) hR3.out ?_))
      refine bodyPost_ret (v := .agg R) ?_ rfl ⟨by rw [hR.out], ?_⟩
      · exact results_cell_row Try.results26 _ _ g0 43 R (0, 0) _ rfl (setRow_heap _ _ _ _ _ _ h2.out) Try.underlying43 rfl hR1.out
      · exact below_setRow h3'.out hg0'.out _
theorem classes_c (v : Value) (xs : List Nat) (w : World) (h : Fv w v xs) : Calls Try.prog 26 #[v] w fun e w' => e = .returned (.agg (ba (hs xs))) ∧ Below w.heap.size w w' := by
  obtain ⟨ao, cap, rfl, h1, h2⟩ := h.each
  exact classes_n ao xs.length cap xs w rfl h1 h2 h.at
theorem big_bdK {N n K : Nat} (hK : K = 34) (h : N ≤ n * 2 ^ tp) (hn : n ≤ 140737488355328) : bitLen N ≤ 2146 ∧ N < W64 ^ K := by
  obtain ⟨T, hT⟩ : ∃ T : Nat, T = 2146 := ⟨_, rfl⟩
  have h1 : n * 2 ^ tp < 2 ^ T := by
    have h2 : n * 2 ^ tp ≤ 2 ^ 47 * 2 ^ tp := Nat.mul_le_mul_right _ hn
    rw [← Nat.pow_add] at h2
    have e : tp = 2098 := tp_eq
    have h3 : 2 ^ (47 + tp) < 2 ^ T := Nat.pow_lt_pow_right (by decide) (by omega)
    omega
  have h4 : N < 2 ^ T := by omega
  refine ⟨by rw [← hT]; exact bitLen_lt h4, ?_⟩
  rw [W64_pow]
  exact Nat.lt_of_lt_of_le h4 (Nat.pow_le_pow_right (by decide) (by omega))
theorem big_bd {N n : Nat} (h : N ≤ n * 2 ^ tp) (hn : n ≤ 140737488355328) : bitLen N ≤ 2146 ∧ N < W64 ^ 34 := big_bdK rfl h hn
theorem Bx_new (w : World) (Z : Array Value) (hZ : Z = Array.replicate 34 (.int .u64 0)) : Bx (w.alloc (.cells Z 58)) w.heap.size (Wd.wd W64 0) := by
  refine ⟨by rw [Cl_len, Nat.mul_one], .inr ⟨_, 34, _, rfl, Nat.le_refl _, heap_alloc_new w _, by omega, by unfold maxLen; omega, by rw [hZ, Array.size_replicate], ?_⟩⟩
  rw [hZ, Array.toList_replicate]
  apply List.ext_getElem?
  intro j
  by_cases hj : j < 34
  · rw [Cl_get .u64 _ hj]
    have : Wd.wd W64 0 j = 0 := by unfold Wd.wd; rw [Nat.zero_div, Nat.zero_mod]
    rw [this, List.getElem?_take, if_pos (by omega), List.getElem?_replicate, if_pos hj]
    rfl
  · rw [List.getElem?_eq_none (by rw [List.length_take, List.length_replicate]; omega), List.getElem?_eq_none (by rw [Cl_len]; omega)]
theorem Bx.alloc {w : World} {g : Nat} {f : Nat → Nat} (h : Bx w g f) (o : Obj) : Bx (w.alloc o) g f := Row.allocs h o
theorem Bx.lt {w : World} {g : Nat} {f : Nat → Nat} (h : Bx w g f) : g < w.heap.size := (Row.lt h g rfl).2
theorem Bx.other {w w' : World} {g g' : Nat} {f : Nat → Nat} (h : Bx w g f) (hg : w.grownBy w' (some g')) (hne : g ≠ g') : Bx w' g f := Row.kept h hg (fun b hb e => by
  have e1 : g = b := by simpa [Value.ownBlock] using hb
  have e2 : b = g' := by simpa using e
  exact hne (e1.trans e2))
theorem Bx.drewN {w : World} {g : Nat} {f : Nat → Nat} (h : Bx w g f) (q : Nat) : Bx (w.drewN q) g f := h
theorem bitLen_le {a b : Nat} (h : a ≤ b) : bitLen a ≤ bitLen b := by
  have h1 := bitLen_spec b
  have h2 : b < 2 ^ bitLen b := by first | exact h1 | exact h1.1 | exact h1.2
  exact bitLen_lt (Nat.lt_of_le_of_lt h h2)
theorem sign_or (n : Nat) (h : n < 9223372036854775808) : bits .or .u64 9223372036854775808 (n : Int) = ((9223372036854775808 + n : Nat) : Int) := by
  have := u64_or_nat 9223372036854775808 n (by decide) (by omega)
  refine this.trans ?_
  rw [nat_join 63 _ _ (by decide) (by omega)]
theorem below_drewN (w : World) {B : Nat} (q : Nat) : Below B w (w.drewN q) := ⟨rfl, rfl, rfl, Nat.le_refl _, fun _ _ => rfl⟩
theorem uq_pos {x : Nat} (h : x < 9223372036854775808) : Sm.uq x = vr x ∧ Sm.dq x = 0 := by unfold Sm.uq Sm.dq; rw [if_pos h, if_pos h]; exact ⟨rfl, rfl⟩
theorem uq_neg {x : Nat} (h : ¬ x < 9223372036854775808) : Sm.uq x = 0 ∧ Sm.dq x = vr (x % 9223372036854775808) := by unfold Sm.uq Sm.dq; rw [if_neg h, if_neg h]; exact ⟨rfl, rfl⟩
theorem up_take {xs : List Nat} {i : Nat} (h : i < xs.length) : Sm.up (xs.take (i + 1)) = Sm.up (xs.take i) + Sm.uq (xs.getD i 0) ∧ Sm.dn (xs.take (i + 1)) = Sm.dn (xs.take i) + Sm.dq (xs.getD i 0) := by
  rw [List.take_succ_eq_append_getElem h, Sm.up_snoc, Sm.dn_snoc, getD_at h]; exact ⟨rfl, rfl⟩
theorem part_bd {xs : List Nat} (hf : ∀ x ∈ xs, fin x) (hn : xs.length ≤ 140737488355328) (i : Nat) : (bitLen (Sm.up (xs.take i)) ≤ 2146 ∧ Sm.up (xs.take i) < W64 ^ 34) ∧ (bitLen (Sm.dn (xs.take i)) ≤ 2146 ∧ Sm.dn (xs.take i) < W64 ^ 34) := by
  have hl : (xs.take i).length ≤ 140737488355328 := by rw [List.length_take]; omega
  have hf' : ∀ x ∈ xs.take i, fin x := fun x hx => hf x (List.mem_of_mem_take hx)
  exact ⟨big_bd (Sm.up_lt hf') hl, big_bd (Sm.dn_lt hf') hl⟩
set_option maxRecDepth 100000 in
set_option maxHeartbeats 2000000 in
theorem finite_n (ao : Option Addr) (n cap : Nat) (xs : List Nat) (w : World) (hn : Hid (xs.length = n)) (hn2 : n ≤ 140737488355328) (hc : Hid (∀ i, i < n → ∃ b off, ao = some ⟨b, off, none⟩ ∧ b < w.heap.size ∧ w.cell? ⟨b, off + i, none⟩ = some (.float .f64 (xs.getD i 0)))) (hf : Hid (∀ x ∈ xs, fin x)) :
    Calls Try.prog 30 #[.slice ao n cap] w fun e w' => e = .returned (.float .f64 (Sm.exF (Sm.up xs) (Sm.dn xs))) ∧ Below w.heap.size w w' := by
  obtain ⟨Z, hZ⟩ : ∃ Z : Array Value, Hid (Z = #[.int .u64 0, .int .u64 0, .int .u64 0, .int .u64 0, .int .u64 0, .int .u64 0, .int .u64 0, .int .u64 0, .int .u64 0, .int .u64 0, .int .u64 0, .int .u64 0, .int .u64 0, .int .u64 0, .int .u64 0, .int .u64 0, .int .u64 0, .int .u64 0, .int .u64 0, .int .u64 0, .int .u64 0, .int .u64 0, .int .u64 0, .int .u64 0, .int .u64 0, .int .u64 0, .int .u64 0, .int .u64 0, .int .u64 0, .int .u64 0, .int .u64 0, .int .u64 0, .int .u64 0, .int .u64 0]) := ⟨_, rfl⟩
  have hZr : Z = Array.replicate 34 (.int .u64 0) := hZ.out.trans rfl
  have b1 : Hid (Bx ((w.alloc (.cells Z 58)).alloc (.cells Z 58)) w.heap.size (Wd.wd W64 0)) := (Bx_new w Z hZr).alloc _
  have b2 : Hid (Bx ((w.alloc (.cells Z 58)).alloc (.cells Z 58)) (w.heap.size + 1) (Wd.wd W64 0)) := by
    have := Bx_new (w.alloc (.cells Z 58)) Z hZr
    rwa [show (w.alloc (.cells Z 58)).heap.size = w.heap.size + 1 by simp] at this
  have b3 : Hid (Below w.heap.size w ((w.alloc (.cells Z 58)).alloc (.cells Z 58))) := ((Below.refl _ _).alloc (Nat.le_refl _) _).alloc (by simp) _
  clear hZr
  go_enter Try.func30, Try.ntmps30
  go_wp2_with fail
  rw [← hZ.out]
  clear hZ
  generalize (w.alloc (.cells Z 58)).alloc (.cells Z 58) = w0 at *
  obtain ⟨g2, hg2⟩ : ∃ g : Nat, Hid (w.heap.size + 1 = g) := ⟨_, (rfl : _ = _)⟩
  obtain ⟨g1, hg1⟩ : ∃ g : Nat, Hid (w.heap.size = g) := ⟨_, (rfl : _ = _)⟩
  rw [hg2.out] at b2 ⊢
  rw [hg1.out] at b1 b3 hc ⊢
  have hgg : g1 ≠ g2 := by have h1 := hg1.out; have h2 := hg2.out; omega
  have hlt0 : g1 < g2 := by have h1 := hg1.out; have h2 := hg2.out; omega
  go_loopw [10] (fun si wr => ∃ (i : Nat), i ≤ n ∧ si = .int .i64 (i : Int) ∧ Hid (Bx wr g1 (Wd.wd W64 (Sm.up (xs.take i)))) ∧ Hid (Bx wr g2 (Wd.wd W64 (Sm.dn (xs.take i)))) ∧ Hid (Below g1 w wr)) (fun si _ => n - (intOf si).toNat)
  case atStart => exact ⟨0, Nat.zero_le _, rfl, b1, b2, b3⟩
  case round =>
    obtain ⟨i, hi, rfl, h1, h2, h3⟩ := hrel
    clear b1 b2 b3
    by_cases hlt : i < n
    · have hlt' : (i : Int) < (n : Int) := by omega
      obtain ⟨b, off, rfl, hb, hcell⟩ := hc.out i hlt
      have c1 := (h3.out.cell (p := ⟨b, off + i, none⟩) hb).trans hcell
      have hix : i < xs.length := by rw [hn.out]; exact hlt
      have hfx : fin (xs.getD i 0) := by rw [getD_at hix]; exact hf.out _ (List.getElem_mem hix)
      obtain ⟨u1, u2⟩ := up_take hix
      have hbd := part_bd hf.out (by rw [hn.out]; exact hn2) (i + 1)
      have hbt : bt (xs.getD i 0) = xs.getD i 0 := bt_fin (nan_fin hfx)
      have hcall : Hid (∀ W, Calls Try.prog 44 #[.float .f64 (xs.getD i 0)] W fun e w' => e = .returned (.int .u64 ((xs.getD i 0 : Nat) : Int)) ∧ W = w') := fun W => by
        have := bits_c (xs.getD i 0) W hfx.1
        rw [hbt] at this; exact this
      have e1 := and_sign (xs.getD i 0) hfx.1
      have e2 := andNot_sign (xs.getD i 0) hfx.1
      generalize xs.getD i 0 = x at c1 hcall e1 e2 u1 u2 hfx
      by_cases hs : x < 9223372036854775808
      · rw [if_pos hs] at e1
        obtain ⟨k1, k2⟩ := uq_pos hs
        rw [k1] at u1
        rw [k2, Nat.add_zero] at u2
        have hadd : Hid (Calls Try.prog 45 #[.pointer (some ⟨g1, 0, none⟩), .int .u64 (x : Int)] wr fun e w' => e = .returned (.tuple #[]) ∧ Bx w' g1 (Wd.wd W64 (Sm.up (xs.take (i + 1)))) ∧ wr.grownBy w' (some g1)) := by
          rw [u1]
          exact add_c _ x g1 wr h1.out (by have := hfx.2; omega) (by rw [← u1]; exact hbd.1.2)
        have h2' : Hid (Bx wr g2 (Wd.wd W64 (Sm.dn (xs.take (i + 1))))) := by rw [u2]; exact h2.out
        clear u1 u2 k1 k2 hbd hfx hbt hs h1 h2 hcell e2
        go_wp2_with fail
        refine (hcall.out _).mono ?_
        rintro e w' ⟨rfl, rfl⟩
        clear hcall
        go_wp2_with fail
        refine hadd.out.mono ?_
        rintro e w1 ⟨rfl, n1, n2⟩
        have n1H : Hid (Bx w1 g1 (Wd.wd W64 (Sm.up (xs.take (i + 1))))) := n1
        have n3H : Hid (Bx w1 g2 (Wd.wd W64 (Sm.dn (xs.take (i + 1))))) := h2'.out.other n2 (fun e => hgg e.symm)
        have n4H : Hid (Below g1 w w1) := h3.out.grown n2 (by have := h3.out.size; have := hg1.out; omega) (fun k hk => by cases hk; exact Nat.le_refl _)
        clear n1 n2 hadd h2' h3
        go_wp2_with fail
        go_roundw
        case rel => exact ⟨i + 1, by omega, by go_num, n1H, n3H, n4H⟩
        case measure => simp [intOf]; omega
      · rw [if_neg hs] at e1
        obtain ⟨k1, k2⟩ := uq_neg hs
        rw [k1, Nat.add_zero] at u1
        rw [k2] at u2
        have hadd : Hid (Calls Try.prog 45 #[.pointer (some ⟨g2, 0, none⟩), .int .u64 ((x % 9223372036854775808 : Nat) : Int)] wr fun e w' => e = .returned (.tuple #[]) ∧ Bx w' g2 (Wd.wd W64 (Sm.dn (xs.take (i + 1)))) ∧ wr.grownBy w' (some g2)) := by
          rw [u2]
          exact add_c _ _ g2 wr h2.out hfx.2 (by rw [← u2]; exact hbd.2.2)
        have h2' : Hid (Bx wr g1 (Wd.wd W64 (Sm.up (xs.take (i + 1))))) := by rw [u1]; exact h1.out
        generalize x % 9223372036854775808 = y at hadd e2
        clear u1 u2 k1 k2 hbd hfx hbt hs h1 h2 hcell
        go_wp2_with fail
        refine (hcall.out _).mono ?_
        rintro e w' ⟨rfl, rfl⟩
        clear hcall
        go_wp2_with fail
        refine hadd.out.mono ?_
        rintro e w1 ⟨rfl, n1, n2⟩
        have n1H : Hid (Bx w1 g2 (Wd.wd W64 (Sm.dn (xs.take (i + 1))))) := n1
        have n3H : Hid (Bx w1 g1 (Wd.wd W64 (Sm.up (xs.take (i + 1))))) := h2'.out.other n2 hgg
        have n4H : Hid (Below g1 w w1) := h3.out.grown n2 (by have := h3.out.size; have := hg1.out; omega) (fun k hk => by cases hk; exact Nat.le_of_lt hlt0)
        clear n1 n2 hadd h2' h3
        go_wp2_with fail
        go_roundw
        case rel => exact ⟨i + 1, by omega, by go_num, n3H, n1H, n4H⟩
        case measure => simp [intOf]; omega
    · have hlt' : decide ((i : Int) < (n : Int)) = false := decide_eq_false (by omega)
      obtain ⟨⟨d1, d2⟩, d3, d4⟩ := part_bd hf.out (by rw [hn.out]; exact hn2) i
      rw [List.take_of_length_le (show xs.length ≤ i by rw [hn.out]; omega)] at h1 h2 d1 d2 d3 d4
      have hless : Hid (Calls Try.prog 46 #[.pointer (some ⟨g1, 0, none⟩), .pointer (some ⟨g2, 0, none⟩)] wr fun e w' => e = .returned (.bool (decide (Sm.up xs < Sm.dn xs))) ∧ ∃ q, w' = wr.drewN q) := less_c _ _ g1 g2 wr h1 h2 d2 d4
      have h3' : Hid (Below w.heap.size w wr) := by rw [hg1.out]; exact h3.out
      have hsz : Hid (w.heap.size ≤ g1) := Nat.le_of_eq hg1.out
      have hsz2 : Hid (w.heap.size ≤ wr.heap.size) := h3'.out.size
      have hv : Hid (Sm.exF (Sm.up xs) (Sm.dn xs) = if Sm.up xs < Sm.dn xs then 9223372036854775808 + Sm.rd (Sm.dn xs - Sm.up xs) else Sm.rd (Sm.up xs - Sm.dn xs)) := rfl
      obtain ⟨V, hVV⟩ : ∃ V, Hid (Sm.exF (Sm.up xs) (Sm.dn xs) = V) := ⟨_, (rfl : _ = _)⟩
      rw [hVV.out] at hv
      generalize Sm.up xs = U at h1 h2 d1 d2 hless hv
      generalize Sm.dn xs = D at h1 h2 d3 d4 hless hv
      clear h3 hc hf
      go_wp2_with fail
      refine hless.out.mono ?_
      rintro e w1 ⟨rfl, q, rfl⟩
      clear hless
      by_cases hUD : U < D
      · rw [decide_eq_true hUD]
        have hV : Hid (V = 9223372036854775808 + Sm.rd (D - U)) := by rw [hv.out, if_pos hUD]; exact rfl
        have hbl : Hid (bitLen (D - U) ≤ 2161) := Nat.le_trans (bitLen_le (Nat.sub_le _ _)) (by omega)
        have hsub : Hid (Calls Try.prog 47 #[.pointer (some ⟨g2, 0, none⟩), .pointer (some ⟨g1, 0, none⟩)] (wr.drewN q) fun e w' => e = .returned (.tuple #[]) ∧ Bx w' g2 (Wd.wd W64 (D - U)) ∧ (wr.drewN q).grownBy w' (some g2)) := subtract_c D U g2 g1 _ (h2.out.drewN q) (h1.out.drewN q) hgg (Nat.le_of_lt hUD)
        have hlim : Hid (D - U < W64 ^ 34) := Nat.lt_of_le_of_lt (Nat.sub_le _ _) d4
        clear d1 d2 d3 d4 hv h1 h2 hUD
        generalize D - U = N at *
        go_wp2_with fail
        refine hsub.out.mono ?_
        rintro e w2 ⟨rfl, n1, n2⟩
        have n4H : Hid (Below w.heap.size w w2) := (h3'.out.trans (below_drewN wr q)).grown n2 hsz2.out (fun k hk => by cases hk; exact Nat.le_trans hsz.out (Nat.le_of_lt hlt0))
        have hrd : Hid (Calls Try.prog 48 #[.pointer (some ⟨g2, 0, none⟩)] w2 fun e w' => e = .returned (.int .u64 ((Sm.rd N : Nat) : Int)) ∧ ∃ q, w' = w2.drewN q) := wround_c N g2 w2 n1 hlim hbl.out
        have hor := sign_or (Sm.rd N) (by have := Sm.rd_le N; omega)
        rw [← hV.out] at hor
        generalize Sm.rd N = R at hrd hor
        clear n1 n2 hsub h3' hV
        go_wp2_with fail
        refine hrd.out.mono ?_
        rintro e w3 ⟨rfl, q2, rfl⟩
        clear hrd
        go_wp2_with (go_at_call 29; refine (of_c _ _).mono ?_; rintro e w' ⟨rfl, rfl⟩)
        go_ret
        exact ⟨ret_float hVV.out.symm, n4H.out.trans (below_drewN _ _)⟩
      · rw [decide_eq_false hUD]
        have hV : Hid (V = Sm.rd (U - D)) := by rw [hv.out, if_neg hUD]; exact rfl
        have hbl : Hid (bitLen (U - D) ≤ 2161) := Nat.le_trans (bitLen_le (Nat.sub_le _ _)) (by omega)
        have hsub : Hid (Calls Try.prog 47 #[.pointer (some ⟨g1, 0, none⟩), .pointer (some ⟨g2, 0, none⟩)] (wr.drewN q) fun e w' => e = .returned (.tuple #[]) ∧ Bx w' g1 (Wd.wd W64 (U - D)) ∧ (wr.drewN q).grownBy w' (some g1)) := subtract_c U D g1 g2 _ (h1.out.drewN q) (h2.out.drewN q) (fun e => hgg e.symm) (Nat.le_of_not_lt hUD)
        have hlim : Hid (U - D < W64 ^ 34) := Nat.lt_of_le_of_lt (Nat.sub_le _ _) d2
        clear d1 d2 d3 d4 hv h1 h2 hUD
        generalize U - D = N at *
        go_wp2_with fail
        refine hsub.out.mono ?_
        rintro e w2 ⟨rfl, n1, n2⟩
        have n4H : Hid (Below w.heap.size w w2) := (h3'.out.trans (below_drewN wr q)).grown n2 hsz2.out (fun k hk => by cases hk; exact hsz.out)
        have hrd : Hid (Calls Try.prog 48 #[.pointer (some ⟨g1, 0, none⟩)] w2 fun e w' => e = .returned (.int .u64 ((Sm.rd N : Nat) : Int)) ∧ ∃ q, w' = w2.drewN q) := wround_c N g1 w2 n1 hlim hbl.out
        rw [← hV.out] at hrd
        clear n1 n2 hsub h3' hV
        go_wp2_with fail
        refine hrd.out.mono ?_
        rintro e w3 ⟨rfl, q2, rfl⟩
        clear hrd
        go_wp2_with (go_at_call 29; refine (of_c _ _).mono ?_; rintro e w' ⟨rfl, rfl⟩)
        go_ret
        exact ⟨ret_float hVV.out.symm, n4H.out.trans (below_drewN _ _)⟩
theorem finite_c (v : Value) (xs : List Nat) (w : World) (h : Fv w v xs) (hf : ∀ x ∈ xs, fin x) : Calls Try.prog 30 #[v] w fun e w' => e = .returned (.float .f64 (Sm.exF (Sm.up xs) (Sm.dn xs))) ∧ Below w.heap.size w w' := by
  obtain ⟨ao, cap, rfl, h1, h2⟩ := h.each
  exact finite_n ao xs.length cap xs w rfl h1 h2 hf
theorem cls_vals {x : Nat} (h : x < 18446744073709551616) : ((cls x == (9 : Nat)) = nanB x) ∧ ((cls x == (8 : Nat)) = (x == 9218868437227405312)) ∧ ((cls x == (1 : Nat)) = (x == 18442240474082181120)) ∧ ((cls x == (4 : Nat)) = (x == 9223372036854775808)) := by
  unfold cls
  cases hn : nanB x
  · rw [bt_fin hn]
    have hn' : x % 9223372036854775808 ≤ 9218868437227405312 := by unfold nanB at hn; simp only [decide_eq_false_iff_not] at hn; omega
    unfold cab
    have key : ∀ (a : Int) (b : Nat), (a == (b : Int)) = decide (a = (b : Int)) := fun a b => by rw [Bool.eq_iff_iff]; simp
    have key2 : ∀ (a b : Nat), (a == b) = decide (a = b) := fun a b => by rw [Bool.eq_iff_iff]; simp
    simp only [key, key2]
    refine ⟨?_, ?_, ?_, ?_⟩ <;> first | (apply decide_eq_false; (split <;> (try split) <;> (try split) <;> (try split) <;> (try split) <;> omega)) | (rw [decide_eq_decide]; (split <;> (try split) <;> (try split) <;> (try split) <;> (try split) <;> omega))
  · rw [bt_nan hn]
    have : 9218868437227405312 < x % 9223372036854775808 := by unfold nanB at hn; simpa using hn
    have e1 : (x == 9218868437227405312) = false := beq_eq_false_iff_ne.2 (by omega)
    have e2 : (x == 18442240474082181120) = false := beq_eq_false_iff_ne.2 (by omega)
    have e3 : (x == 9223372036854775808) = false := beq_eq_false_iff_ne.2 (by omega)
    rw [e1, e2, e3]
    exact ⟨by decide, by decide, by decide, by decide⟩
theorem any_congr {f g : Nat → Bool} : ∀ {l : List Nat}, (∀ x ∈ l, f x = g x) → l.any f = l.any g
  | [], _ => rfl
  | a :: t, h => by rw [List.any_cons, List.any_cons, h a (by simp), any_congr (fun x hx => h x (by simp [hx]))]
theorem hs_vals {xs : List Nat} (hl : ∀ x ∈ xs, x < 18446744073709551616) : hs xs 9 = Sm.anyN xs ∧ hs xs 8 = Sm.anyI xs ∧ hs xs 1 = Sm.anyJ xs :=
  ⟨any_congr fun x hx => (cls_vals (hl x hx)).1, any_congr fun x hx => (cls_vals (hl x hx)).2.1, any_congr fun x hx => (cls_vals (hl x hx)).2.2.1⟩
end Go.Proofs.Ytmfnjmgdindlaaa
