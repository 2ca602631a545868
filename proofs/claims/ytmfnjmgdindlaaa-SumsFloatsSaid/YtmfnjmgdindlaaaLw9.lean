/-
  Layer 9's statements: the floats of bits, the fixed fact; all four sums of one list.
-/
import Derived.Test.YtmfnjmgdindlaaaXq9
import Derived.Test.YtmfnjmgdindlaaaLst
import Derived.Maps.AppendAt
namespace Go.Proofs.Ytmfnjmgdindlaaa
open Flo Go.RowKit Ieee
theorem below_of_drew {w w' : World} {k : Nat} (h : w' = w.drewN k) : Below w.heap.size w w' := by subst h; exact below_drewN w k
theorem RFx.b {w w' : World} {r : Nat} {e : Ending} (h : RFx w r e w') : RFb w r e w' := by
  obtain ⟨x, k, h1, h2, h3, h4⟩ := h
  exact ⟨x, h1, h3, h4, below_of_drew h2⟩
/-- the program's four sums of one list -/
structure Sums (w : World) (v : Value) (xs : List Nat) (f : Nat) : Prop where
  cL : ∀ W, Below w.heap.size w W → Calls Try.prog 9 #[v] W (RFb W (lf xs))
  cP : ∀ W, Below w.heap.size w W → Calls Try.prog 10 #[v] W (RFb W (pf f xs))
  cK : ∀ W, Below w.heap.size w W → Calls Try.prog 11 #[v] W (RFb W (kp xs))
  cE : ∀ W, Below w.heap.size w W → Calls Try.prog 12 #[v] W (RFb W (Sm.exB xs))
theorem Fv.sums {w : World} {v : Value} {xs : List Nat} {f : Nat} (h : Fv w v xs) (hf : xs.length ≤ f) : Sums w v xs f :=
  ⟨fun W hb => (pLeft_c v xs W (h.below hb)).mono fun _ _ h => h.b, fun W hb => (pPair_c f v xs W (h.below hb) hf).mono fun _ _ h => h.b,
   fun W hb => (pkept_c v xs W (h.below hb)).mono fun _ _ h => h.b, fun W hb => exact_c v xs W (h.below hb)⟩
theorem eq_bt {x c : Nat} (h : bt x = c) (hc : nanB c = false) : x = c := by
  have h1 : nanB x = false := by rw [← nan_bt, h, hc]
  rw [← h, bt_fin h1]
/-- what the fixed fact speaks of -/
def l4 : List Nat := [4607182418800017408, 4846369599423283200, 14069741636278059008, 4607182418800017408]
theorem l4_lf : lf l4 = 4607182418800017408 := by decide +kernel
theorem l4_pf : pf 4 l4 = 0 := by decide +kernel
theorem l4_kp : kp l4 = 4611686018427387904 := by decide +kernel
theorem l4_ex : Sm.exB l4 = 4611686018427387904 := by decide +kernel
theorem l4_fv (w : World) : Fv (w.alloc (.cells #[.float .f64 4607182418800017408, .float .f64 4846369599423283200, .float .f64 14069741636278059008, .float .f64 4607182418800017408] 26)) (.slice (some ⟨w.heap.size, 0, none⟩) 4 4) l4 := by
  refine ⟨⟨_, 4, rfl, by decide, by decide, fun _ => ⟨w.heap.size, 0, rfl, by simp, fun i hi => ?_⟩⟩, by decide⟩
  have hi' : i < 4 := hi
  rw [Nat.zero_add, cell_of_row _ _ _ _ _ _ (heap_alloc_new w _)]
  match i, hi' with
  | 0, _ => rfl | 1, _ => rfl | 2, _ => rfl | 3, _ => rfl
set_option maxRecDepth 100000 in
set_option maxHeartbeats 1000000 in
theorem lives_c (w : World) : Calls Try.prog 7 #[] w fun e w' => e = .returned (.bool true) ∧ Below w.heap.size w w' := by
  obtain ⟨w0, hw0⟩ : ∃ w0, Hid (w.alloc (.cells #[.float .f64 4607182418800017408, .float .f64 4846369599423283200, .float .f64 14069741636278059008, .float .f64 4607182418800017408] 26) = w0) := ⟨_, (rfl : _ = _)⟩
  have hS : Hid (Sums w0 (.slice (some ⟨w.heap.size, 0, none⟩) 4 4) l4 4) := by rw [← hw0.out]; exact (l4_fv w).sums (by decide)
  have b0 : Hid (Below w.heap.size w w0) := by rw [← hw0.out]; exact (Below.refl _ _).alloc (Nat.le_refl _) _
  have q1 : FloatKind.f64.format.order 4607182418800017408 4607182418800017408 = some .eq := by decide
  have q2 : FloatKind.f64.format.order 0 0 = some .eq := by decide
  have q3 : FloatKind.f64.format.order 4611686018427387904 4611686018427387904 = some .eq := by decide
  go_enter Try.func7, Try.ntmps7
  go_wp2_with fail
  rw [hw0.out]
  refine (hS.out.cL _ (Below.refl _ _)).mono ?_
  rintro e w1 ⟨x1, rfl, hx1, hb1, k1⟩
  rw [l4_lf] at hb1
  obtain rfl := eq_bt hb1 (by decide)
  have k1H : Hid (Below w0.heap.size w0 w1) := k1
  clear hx1 hb1 k1
  go_wp2_with fail
  refine (hS.out.cP _ k1H.out).mono ?_
  rintro e w2 ⟨x2, rfl, hx2, hb2, k2⟩
  rw [l4_pf] at hb2
  obtain rfl := eq_bt hb2 (by decide)
  have k2H : Hid (Below w0.heap.size w0 w2) := k1H.out.trans (k2.mono k1H.out.size)
  clear hx2 hb2 k2
  go_wp2_with fail
  refine (hS.out.cK _ k2H.out).mono ?_
  rintro e w3 ⟨x3, rfl, hx3, hb3, k3⟩
  rw [l4_kp] at hb3
  obtain rfl := eq_bt hb3 (by decide)
  have k3H : Hid (Below w0.heap.size w0 w3) := k2H.out.trans (k3.mono k2H.out.size)
  clear hx3 hb3 k3
  go_wp2_with fail
  refine (hS.out.cE _ k3H.out).mono ?_
  rintro e w4 ⟨x4, rfl, hx4, hb4, k4⟩
  rw [l4_ex] at hb4
  obtain rfl := eq_bt hb4 (by decide)
  have k4H : Hid (Below w0.heap.size w0 w4) := k3H.out.trans (k4.mono k3H.out.size)
  clear hx4 hb4 k4
  go_wp2_with fail
  go_ret
  exact ⟨rfl, b0.out.trans (k4H.out.mono b0.out.size)⟩
set_option maxRecDepth 100000 in
set_option maxHeartbeats 400000 in
theorem natFl_c (b : Nat) (w : World) (hb : b < 18446744073709551616) :
    Calls Try.prog 22 #[.int .u64 b] w fun e w' => e = .returned (.float .f64 (bt b)) ∧ w = w' := by
  have h1 := run_frombits
  by_cases hn : 9218868437227405312 < b % 9223372036854775808
  · have ho : FloatKind.f64.format.order b b = none := order_nan_left b b hn
    have hbt : Hid (bt b = 9221120237041090560) := by show _ = _; unfold bt; rw [if_pos hn]
    clear hn hb
    go_enter Try.func22, Try.ntmps22
    go_wp2
    go_ret
    exact ⟨by rw [hbt.out]; rfl, rfl⟩
  · have ho : FloatKind.f64.format.order b b = some Ordering.eq := by
      have h1 := order_of b b hb hb (by omega) (by omega)
      have h2 : compare (sv b) (sv b) = Ordering.eq := by simp
      rw [h2] at h1
      exact h1
    have hbt : Hid (bt b = b) := by show _ = _; unfold bt; rw [if_neg hn]
    clear hn hb
    go_enter Try.func22, Try.ntmps22
    go_wp2
    go_ret
    exact ⟨by rw [hbt.out]; rfl, rfl⟩
theorem cell_one_new9 (w : World) (o : Value) (t : TypeId) : ∀ (j : Nat) u, [o][j]? = some u → (w.alloc (.cells #[o] t)).cell? ((⟨w.heap.size, 0, none⟩ : Addr).add j) = some u := by
  intro j u hj
  match j, hj with
  | 0, hj => simp at hj; subst hj; simp [Addr.add]
theorem fl_get {xs : List Nat} {i : Nat} (h : i < xs.length) : (fl xs)[i]? = some (.float .f64 (xs.getD i 0)) := by
  unfold fl; rw [List.getElem?_map, List.getElem?_eq_getElem h, getD_at h]; rfl
theorem fv_own {w : World} {B : Nat} {v : Value} {xs : List Nat} (h : w.ownsRow B 26 1 v xs.length (fl xs)) (hl : ∀ x ∈ xs, x < 18446744073709551616) (hn : xs.length ≤ 140737488355328) : Fv w v xs := by
  rcases h.2 with ⟨e, h0⟩ | ⟨g, cap, cur, e, h1, h2, h3, h4, h5, h6⟩
  · refine ⟨⟨none, 0, by rw [e, h0], by omega, hn, fun hx => absurd (List.eq_nil_of_length_eq_zero h0) hx⟩, hl⟩
  · subst e
    refine ⟨⟨_, cap, rfl, h3, hn, fun hx => ⟨g, 0, rfl, (Array.getElem?_eq_some_iff.1 h2).1, fun i hi => ?_⟩⟩, hl⟩
    rw [Nat.zero_add, World.ownsRow.cellAt h i (by omega), fl_get hi]
theorem lim_map {zs : List Nat} (h : ∀ x ∈ zs, x < 18446744073709551616) : ∀ x ∈ zs.map bt, x < 18446744073709551616 := fun x hx => by
  obtain ⟨y, hy, rfl⟩ := List.mem_map.1 hx
  exact bt_lt (h y hy)
theorem fl_bt (zs : List Nat) (k : Nat) (h : k < zs.length) : fl ((zs.map bt).take (k + 1)) = fl ((zs.map bt).take k) ++ [.float .f64 (bt (zs.getD k 0))] := by
  have := fl_snoc (zs.map bt) k (by simpa using h)
  rw [this, getD_at (by simpa using h), getD_at h]
  simp
set_option maxHeartbeats 1000000 in
theorem floats9_n (ao : Option Addr) (n cap : Nat) (zs : List Nat) (w : World) (hn : Hid (zs.length = n)) (hr : n * 8 ≤ 140737488351232) (hl : Hid (∀ i, i < n → zs.getD i 0 < 18446744073709551616))
    (hc : Hid (∀ i, i < n → ∃ b off, ao = some ⟨b, off, none⟩ ∧ b < w.heap.size ∧ w.cell? ⟨b, off + i, none⟩ = some (.int .u64 ((zs.getD i 0 : Nat) : Int)))) :
    Calls Try.prog 8 #[.slice ao n cap] w fun e w' => ∃ v, e = .returned v ∧ w'.ownsRow w.heap.size 26 1 v n (fl (zs.map bt)) ∧ v.ownBlock ≠ none ∧ Below w.heap.size w w' := by
  obtain ⟨i0, hi, hz0, hz1, hz2⟩ := info_parts info24
  go_enter Try.func8, Try.ntmps8
  go_wp2_with fail
  go_loopw [3, 9] (fun v i wr => ∃ k : Nat, k ≤ n ∧ i = .int .i64 (k : Int) ∧ Hid (wr.ownsRow w.heap.size 26 1 v k (fl ((zs.map bt).take k))) ∧ Hid (v.ownBlock ≠ none) ∧ Hid (Below w.heap.size w wr)) (fun _ i _ => n - (intOf i).toNat)
  case atStart => exact ⟨0, Nat.zero_le _, rfl, World.ownsRow_made w #[] 0 (Nat.le_refl _) (by decide) rfl, (fun h => by cases h), (Below.refl _ _).alloc (Nat.le_refl _) _⟩
  case round =>
    obtain ⟨k, hk, rfl, hown, hne, hbl⟩ := hrel
    by_cases hlt : k < n
    · have hlt' : (k : Int) < (n : Int) := by omega
      obtain ⟨b, off, rfl, hb, hcell⟩ := hc.out k hlt
      have hcx := (hbl.out.cell (p := ⟨b, off + k, none⟩) hb).trans hcell
      have hfs : Hid (fl ((zs.map bt).take (k + 1)) = fl ((zs.map bt).take k) ++ [.float .f64 (bt (zs.getD k 0))]) := fl_bt zs k (by rw [hn.out]; exact hlt)
      have hcall : Hid (∀ W, Calls Try.prog 22 #[.int .u64 ((zs.getD k 0 : Nat) : Int)] W fun e w' => e = .returned (.float .f64 (bt (zs.getD k 0))) ∧ W = w') := fun W => natFl_c _ W (hl.out k hlt)
      generalize bt (zs.getD k 0) = z at hfs hcall
      generalize zs.getD k 0 = y at hcx hcall
      have hsz := hbl.out.size
      clear hcell
      go_wp2_with fail
      refine (hcall.out _).mono ?_
      rintro e w' ⟨rfl, rfl⟩
      clear hcall hcx
      go_wp2_with (at_builtin; refine wpList_append_own_at _ rfl _ _ 24 rfl w.heap.size 26 i0 (.float .f64 0) 1 8 Try.underlying24 hi hz0 hz1 hz2 rfl (by decide) _ _ _ rfl (hown.out.alloc _) ⟨wr.heap.size, 0, none⟩ 1 1 [.float .f64 z] rfl rfl (cell_one_new9 _ _ _) (by simp [Value.oneCell']) (by unfold maxLen; omega) (by omega) (by simp; omega) ?_)
      intro v' w1 hown' hgrow hnil hat
      have O5 : Hid (w1.ownsRow w.heap.size 26 1 v' (k + 1) (fl ((zs.map bt).take (k + 1)))) := by rw [hfs.out]; exact hown'
      have B5 : Hid (Below w.heap.size w w1) := (hbl.out.alloc hsz _).grown hgrow (by simp; omega) (fun k' hk' => (hown.out.lt k' hk').1)
      have n5 : Hid (v'.ownBlock ≠ none) := fun h => by
        rcases hat with e | e
        · exact hne.out (e ▸ h)
        · rw [e] at h; cases h
      clear hown hown' hgrow hnil hat hne hbl hfs
      go_wp2_with fail
      go_roundw
      case rel => exact ⟨k + 1, by omega, by go_num, O5, n5, B5⟩
      case measure => simp [intOf]; omega
    · have hlt' : decide ((k : Int) < (n : Int)) = false := decide_eq_false (by omega)
      have ek : k = n := by omega
      subst ek
      have O5 : Hid (wr.ownsRow w.heap.size 26 1 u3 k (fl (zs.map bt))) := by
        have := hown.out
        rw [List.take_of_length_le (by rw [List.length_map, hn.out]; exact Nat.le_refl _)] at this
        exact this
      clear hown hc
      go_wp2_with fail
      go_ret
      exact ⟨_, rfl, O5.out, hne.out, hbl.out⟩
/-- a list of bits that came in, each place by itself -/
def InU (w : World) (v : Value) (zs : List Nat) : Prop :=
  ∃ ao cap, v = .slice ao zs.length cap ∧ (∀ i, i < zs.length → ∃ b off, ao = some ⟨b, off, none⟩ ∧ b < w.heap.size ∧ w.cell? ⟨b, off + i, none⟩ = some (.int .u64 ((zs.getD i 0 : Nat) : Int))) ∧ (∀ i, i < zs.length → zs.getD i 0 < 18446744073709551616)
theorem InU.below {w w' : World} {v : Value} {zs : List Nat} (h : InU w v zs) (hb : Below w.heap.size w w') : InU w' v zs := by
  obtain ⟨ao, cap, e, h2, h3⟩ := h
  refine ⟨ao, cap, e, fun i hi => ?_, h3⟩
  obtain ⟨b, off, e2, h4, h5⟩ := h2 i hi
  exact ⟨b, off, e2, Nat.lt_of_lt_of_le h4 hb.size, (hb.cell (p := ⟨b, off + i, none⟩) h4).trans h5⟩
theorem floats9_c (v : Value) (zs : List Nat) (w : World) (h : InU w v zs) (hr : zs.length * 8 ≤ 140737488351232) :
    Calls Try.prog 8 #[v] w fun e w' => ∃ v', e = .returned v' ∧ w'.ownsRow w.heap.size 26 1 v' zs.length (fl (zs.map bt)) ∧ v'.ownBlock ≠ none ∧ Below w.heap.size w w' := by
  obtain ⟨ao, cap, rfl, h2, h3⟩ := h
  exact floats9_n ao zs.length cap zs w rfl hr h3 h2
end Go.Proofs.Ytmfnjmgdindlaaa
