/-
  Contracts of package primes: reachesAll, Root (with slices.Compact).
-/
import Derived.Test.YtkgecgkjmikihabDoorPg4
import Derived.Test.YtkgecgkjmikihabDoorShc
namespace Go.Proofs.YtkgecgkjmikihabDoor
open Flo Go.RowKit Go.Lib

theorem compact_mem (d : Array Int) (q : Int) : ∀ m, q ∈ compactUpTo d m ↔ ∃ j, j < m ∧ d[j]! = q := by
  intro m
  induction m with
  | zero => simp [compactUpTo]
  | succ m ih =>
    rw [compactUpTo_succ, List.mem_append, ih]
    by_cases hk : keeps d m = true
    · rw [if_pos hk]
      constructor
      · rintro (⟨j, hj, e⟩ | h)
        · exact ⟨j, by omega, e⟩
        · exact ⟨m, by omega, (List.mem_singleton.1 h).symm⟩
      · rintro ⟨j, hj, e⟩
        by_cases c : j = m
        · subst c; exact Or.inr (by simp [e])
        · exact Or.inl ⟨j, by omega, e⟩
    · rw [if_neg hk]
      have hm : ¬ (m = 0 ∨ d[m]! ≠ d[m - 1]!) := fun h => hk (by unfold keeps; exact decide_eq_true h)
      have h0 : m ≠ 0 := fun h => hm (Or.inl h)
      have h1 : d[m]! = d[m - 1]! := Classical.byContradiction fun h => hm (Or.inr h)
      constructor
      · rintro (⟨j, hj, e⟩ | h)
        · exact ⟨j, by omega, e⟩
        · cases h
      · rintro ⟨j, hj, e⟩
        by_cases c : j = m
        · subst c; exact Or.inl ⟨j - 1, by omega, by rw [← h1]; exact e⟩
        · exact Or.inl ⟨j, by omega, e⟩
theorem compact_iff (zs : List Int) (q : Int) : q ∈ compact zs ↔ q ∈ zs := by
  unfold compact
  rw [compact_mem]
  constructor
  · rintro ⟨j, hj, e⟩
    rw [← e]
    have : (zs.toArray)[j]! = zs[j] := by simp [hj]
    rw [this]; exact List.getElem_mem hj
  · intro h
    obtain ⟨j, hj, e⟩ := List.mem_iff_getElem.1 h
    exact ⟨j, hj, by simp [hj, e]⟩
def ci (zs : List Nat) : List Int := zs.map fun (z : Nat) => (z : Int)
/-- the list without its doubles that stand side by side -/
def cn (zs : List Nat) : List Nat := (compact (ci zs)).map Int.toNat
theorem cn_mem (zs : List Nat) (q : Nat) : q ∈ cn zs ↔ q ∈ zs := by
  unfold cn
  rw [List.mem_map]
  constructor
  · rintro ⟨x, hx, rfl⟩
    rw [compact_iff] at hx
    obtain ⟨z, hz, rfl⟩ := List.mem_map.1 hx
    simpa using hz
  · intro h
    exact ⟨(q : Int), by rw [compact_iff]; exact List.mem_map.2 ⟨q, h, rfl⟩, by simp⟩
theorem cn_len (zs : List Nat) : (cn zs).length ≤ zs.length := by
  unfold cn
  rw [List.length_map]
  exact Nat.le_trans (compact_length_le (ci zs)) (by simp [ci])
theorem cn_get (zs : List Nat) (i : Nat) (h : i < (compact (ci zs)).length) : (((cn zs).getD i 0 : Nat) : Int) = (compact (ci zs))[i] := by
  have hm : (compact (ci zs))[i] ∈ ci zs := (compact_iff _ _).1 (List.getElem_mem h)
  obtain ⟨z, _, hz⟩ := List.mem_map.1 hm
  unfold cn
  rw [List.getD_eq_getElem?_getD, List.getElem?_map, List.getElem?_eq_getElem h, ← hz]
  simp
theorem setCells_below (b : Nat) {B : Nat} (hb : B ≤ b) : ∀ (vs : List Value) (o : Nat) (w0 w : World), Below B w0 w → Below B w0 (w.setCells b o vs)
  | [], _, _, _, h => h
  | v :: r, o, w0, _, h => setCells_below b hb r (o + 1) w0 _ (h.setCell (p := ⟨b, o, none⟩) hb v)
theorem setCells_heap (b : Nat) : ∀ (vs : List Value) (o : Nat) (w : World), (w.setCells b o vs).heap.size = w.heap.size
  | [], _, _ => rfl
  | _ :: r, _, _ => by rw [World.setCells, setCells_heap b r]; simp [World.setCell]
theorem compact_c (v : Value) (zs : List Nat) (B : Nat) (w : World) (h : w.ownsRow B 3 1 v zs.length (il zs)) (hl : zs.length ≤ 32) :
    Calls Tryd.prog 22 #[v] w fun e w' => ∃ v', e = .returned v' ∧ RdI w' v' (cn zs) ∧ Below B w w' := by
  have hrd := RdI.of_own h
  obtain ⟨hxl, ho⟩ := h
  rcases ho with ⟨rfl, h2⟩ | ⟨g, cap, cur, rfl, h1, h2, h3, h4, h5, h6⟩
  · have e0 : zs = [] := List.length_eq_zero_iff.1 h2
    subst e0
    refine (Tryd.slices_Compact_int_empty none 0 w).mono ?_
    rintro e w' ⟨rfl, rfl⟩
    exact ⟨_, rfl, ⟨none, 0, rfl, fun c => absurd rfl c⟩, Below.refl _ _⟩
  · have hcell : ∀ j, j < zs.length → w.cell? ⟨g, 0 + j, none⟩ = some (.int .i64 ((ci zs).getD j 0)) := by
      intro j hj
      obtain ⟨ao, cap', he, hr⟩ := hrd
      have hne : zs ≠ [] := by intro c; subst c; simp at hj
      obtain ⟨b, off, rfl, _, hc⟩ := hr hne
      simp only [Value.slice.injEq, Option.some.injEq, Addr.mk.injEq] at he
      obtain ⟨⟨rfl, rfl, _⟩, _, _⟩ := he
      rw [hc j hj]
      simp [ci, List.getD, hj]
    have hlen : (ci zs).length = zs.length := by simp [ci]
    have htk : (ci zs).take zs.length = ci zs := by rw [← hlen, List.take_length]
    have hcl := compact_length_le (ci zs)
    refine (Tryd.slices_Compact_int_cells g 0 zs.length cap (ci zs) w (by omega) (by omega) h3 (by rw [hlen]; exact hcell) (fun j _ => frozen_of_row w g (0 + j) cur 3 h2)).mono ?_
    rintro e w' ⟨rfl, q, rfl⟩
    rw [htk]
    have hcn : (cn zs).length = (compact (ci zs)).length := by simp [cn]
    refine ⟨_, rfl, ⟨some ⟨g, 0, none⟩, cap, by rw [hcn], fun _ => ⟨g, 0, rfl, ?_, fun i hi => ?_⟩⟩, ?_⟩
    · rw [setCells_heap]; exact (Array.getElem?_eq_some_iff.1 h2).1
    · rw [hcn] at hi
      have hin := World.cell?_setCells_in g ((compact (ci zs) ++ List.replicate (zs.length - (compact (ci zs)).length) 0).map (Value.int .i64)) 0 (w.drewN q) (fun j hj => by
        have hj' : j < zs.length := by simp at hj; omega
        have := hcell j hj'
        rw [show (w.drewN q).cell? ⟨g, 0 + j, none⟩ = w.cell? ⟨g, 0 + j, none⟩ from rfl, this]; rfl) i (by simp; omega)
      rw [hin, cn_get zs i hi]
      congr 1
      rw [List.getElem_map, List.getElem_append_left hi]
    · exact setCells_below g h1 _ _ _ _ (below_drewN (Below.refl _ _) q)
theorem Fq_cn {p : Nat} {zs : List Nat} (h : Fq p zs) : Fq p (cn zs) := fun q => by rw [cn_mem]; exact h q
theorem pPow_e (a x m : Int) (a' x' m' : Nat) (w : World) (ea : a = (a' : Int)) (ex : x = (x' : Int)) (em : m = (m' : Int)) (ha : a' < 18446744073709551616) (hx : x' < 18446744073709551616) (hm : m' < 18446744073709551616) :
    Calls Tryd.prog 11 #[.int .u64 a, .int .u64 x, .int .u64 m] w fun e w' => e = .returned (.int .u64 (pw a' x' m' : Nat)) ∧ ∃ k, w' = w.drewN k := by
  subst ea ex em; exact pPow_c a' x' m' w ha hx hm
set_option maxHeartbeats 2000000 in
theorem reaches_c (p g : Nat) (v : Value) (zs : List Nat) (w : World) (h2 : 2 ≤ p) (hp : p ≤ 4294967296) (hg : g ≤ 4294967296) (hR : RdI w v zs) (hF : ∀ q ∈ zs, 2 ≤ q) (hl : zs.length ≤ 32) :
    Calls Tryd.prog 23 #[.int .i64 g, .int .i64 p, v] w fun e w' => e = .returned (.bool (lookB p g zs)) ∧ ∃ k, w' = w.drewN k := by
  obtain ⟨ao, cap, rfl, hrd⟩ := hR
  have hRH : Hid (zs ≠ [] → ∃ b off, ao = some ⟨b, off, none⟩ ∧ b < w.heap.size ∧ ∀ i, i < zs.length → w.cell? ⟨b, off + i, none⟩ = some (.int .i64 ((zs.getD i 0 : Nat) : Int))) := hrd
  have hFH : Hid (∀ q ∈ zs, 2 ≤ q) := hF
  have ew : wrap64 ((p : Int) - 1) = (p : Int) - 1 := by unfold wrap64; omega
  clear hrd hF
  go_enter Tryd.func23, Tryd.ntmps23
  go_wp2
  go_loopw [8, 11] (fun _ si wx => ∃ i k : Nat, i ≤ zs.length ∧ si = .int .i64 i ∧ wx = w.drewN k ∧ Hid (lookB p g (zs.take i) = true)) (fun _ si _ => zs.length - (RowKit.intOf si).toNat)
  case atStart => exact ⟨0, 0, Nat.zero_le _, rfl, rfl, by rw [List.take_zero]; rfl⟩
  case round =>
    obtain ⟨i, k, hi, rfl, rfl, hL⟩ := hrel
    by_cases hlt : i < zs.length
    · have hlt' : (i : Int) < (zs.length : Int) := by omega
      obtain ⟨b, off, rfl, hb, hcell⟩ := hRH.out (fun e => by rw [e] at hlt; simp at hlt)
      have c1 : (w.drewN k).cell? ⟨b, off + i, none⟩ = some (.int .i64 ((zs.getD i 0 : Nat) : Int)) := hcell i hlt
      have hsn := lookB_snoc p g zs i hlt
      have hqm : zs.getD i 0 ∈ zs := by simp [List.getD, hlt]
      have hq2 : 2 ≤ zs.getD i 0 := hFH.out _ hqm
      have htail : Hid (pw g ((p - 1) / zs.getD i 0) p = 1 → lookB p g zs = false) := fun h1 => by
        unfold lookB
        rw [List.all_eq_false]
        exact ⟨_, hqm, by rw [h1]; decide⟩
      clear hcell hqm
      generalize zs.getD i 0 = q at c1 hsn hq2 htail
      obtain ⟨d, hd⟩ : ∃ d : Nat, d = (p - 1) / q := ⟨_, rfl⟩
      have hdl : d < 4294967296 := by rw [hd]; exact Nat.lt_of_le_of_lt (Nat.div_le_self _ _) (by omega)
      have ed : ((p : Int) - 1) / (q : Int) = (d : Int) := by
        rw [show (p : Int) - 1 = ((p - 1 : Nat) : Int) by omega, hd]; rfl
      have ed1 : Hid (IntKind.u64.wrap (wrap64 (((p : Int) - 1) / (q : Int))) = (d : Int)) := (by
        rw [ed, show wrap64 (d : Int) = (d : Int) by unfold wrap64; omega]; exact wrapId _ (by omega) : IntKind.u64.wrap (wrap64 (((p : Int) - 1) / (q : Int))) = (d : Int))
      have ed2 : Hid (wrap64 (((p : Int) - 1) / (q : Int)) = (d : Int)) := (by
        rw [ed]; unfold wrap64; omega : wrap64 (((p : Int) - 1) / (q : Int)) = (d : Int))
      have ed3 : Hid (IntKind.u64.wrap (((p : Int) - 1) / (q : Int)) = (d : Int)) := (by rw [ed]; exact wrapId _ (by omega) : IntKind.u64.wrap (((p : Int) - 1) / (q : Int)) = (d : Int))
      have qz : ((q : Int) == 0) = false := beq_eq_false_iff_ne.2 (by omega)
      rw [← hd] at hsn htail
      clear hd ed
      have hLs : Hid (lookB p g (zs.take (i + 1)) = (lookB p g (zs.take i) && pw g d p != 1)) := hsn
      clear hsn
      by_cases hone : pw g d p = 1
      · have o1 : (((pw g d p : Nat) : Int) == 1) = true := by rw [hone]; rfl
        have hL' : Hid (false = lookB p g zs) := (htail.out hone).symm
        clear hone htail
        go_wp2_with (go_at_call 11; refine (pPow_e _ _ _ g d p _ (by first | rfl | exact wrapId _ (by omega)) (by first | exact ed3.out | exact ed1.out | exact ed2.out) (by first | rfl | exact wrapId _ (by omega)) (by omega) (by omega) (by omega)).mono ?_; rintro e w' ⟨rfl, k1, rfl⟩)
        go_ret
        exact ⟨ret_bool hL'.out, _, rfl⟩
      · have o1 : (((pw g d p : Nat) : Int) == 1) = false := beq_eq_false_iff_ne.2 (by omega)
        have hL' : Hid (lookB p g (zs.take (i + 1)) = true) := (by rw [hLs.out, bne_iff_ne.2 hone, Bool.and_true]; exact hL.out : lookB p g (zs.take (i + 1)) = true)
        clear hone htail
        go_wp2_with (go_at_call 11; refine (pPow_e _ _ _ g d p _ (by first | rfl | exact wrapId _ (by omega)) (by first | exact ed3.out | exact ed1.out | exact ed2.out) (by first | rfl | exact wrapId _ (by omega)) (by omega) (by omega) (by omega)).mono ?_; rintro e w' ⟨rfl, k1, rfl⟩)
        go_roundw
        case rel => exact ⟨i + 1, k + k1, by omega, by go_num, rfl, hL'⟩
        case measure => simp [RowKit.intOf]; omega
    · have hlt' : decide ((i : Int) < (zs.length : Int)) = false := decide_eq_false (by omega)
      have hL' : Hid (true = lookB p g zs) := (by have := hL.out; rw [show i = zs.length by omega, List.take_length] at this; exact this.symm : true = lookB p g zs)
      go_wp2
      go_ret
      exact ⟨ret_bool hL'.out, k, rfl⟩
/-- Factors of p - 1, in one sentence for p = 2 too -/
theorem pFactors_q (p : Nat) (w : World) (h2 : 2 ≤ p) (hp : p ≤ 4294967296) :
    Calls Tryd.prog 10 #[.int .i64 ((p : Int) - 1)] w fun e w' => ∃ v zs, e = .returned v ∧ Fq p zs ∧ zs.length ≤ 32 ∧ w'.ownsRow w.heap.size 3 1 v zs.length (il zs) ∧ Below w.heap.size w w' := by
  by_cases h : p = 2
  · subst h
    refine (pFactors_no _ w (Or.inl (by omega))).mono ?_
    rintro e w' ⟨rfl, rfl⟩
    exact ⟨_, [], rfl, Fq_two, by simp, World.ownsRow_nil _ _ _ _, Below.refl _ _⟩
  · have e1 : (p : Int) - 1 = ((p - 1 : Nat) : Int) := by omega
    rw [e1]
    refine (pFactors_n (p - 1) w (by omega) (by omega)).mono ?_
    rintro e w' ⟨v, zs, rfl, hf, hown, hbl⟩
    exact ⟨v, zs, rfl, Fq_of hf, hf.len (by omega), hown, hbl⟩
set_option maxHeartbeats 1000000 in
theorem pRoot_no (n : Int) (w : World) (al : List Addr) (he : Errs w al) (h : prB n = false) :
    Calls Tryd.prog 7 #[.int .i64 n] w fun e w' => e = .returned (.tuple #[.int .i64 0, ek al 10]) ∧ ∃ k, w' = w.drewN k := by
  have hv := errRoot_cell he
  clear he
  go_enter Tryd.func7, Tryd.ntmps7
  go_wp2_with (go_at_call 8; refine (pPrime_c _ _).mono ?_; rintro e w' ⟨rfl, rfl⟩; rw [h])
  go_quiet (fail)
  go_wp2
  go_ret2
  exact ⟨rfl, _, rfl⟩
set_option maxHeartbeats 2000000 in
theorem pRoot_p (p : Nat) (w : World) (h2 : 2 ≤ p) (hp : p ≤ 4294967296) (hP : Nt.Pr p) :
    Calls Tryd.prog 7 #[.int .i64 p] w fun e w' => ∃ g : Nat, e = .returned (.tuple #[.int .i64 g, .nilIface]) ∧ Rt p g ∧ Below w.heap.size w w' := by
  have hB : prB (p : Int) = true := by rw [prB_nat h2 hp]; exact isP_iff.2 hP
  have hPH : Hid (Nt.Pr p) := hP
  have ew : wrap64 ((p : Int) - 1) = (p : Int) - 1 := by unfold wrap64; omega
  clear hP
  go_enter Tryd.func7, Tryd.ntmps7
  go_wp2_with (go_at_call 8; refine (pPrime_c _ _).mono ?_; rintro e w' ⟨rfl, rfl⟩; rw [hB])
  refine (pFactors_q p _ h2 hp).mono ?_
  rintro e w1 ⟨v, zs, rfl, hfq, hl, hown, hbl1⟩
  have hF : Hid (Fq p (cn zs)) := Fq_cn hfq
  have hO : Hid (w1.ownsRow w.heap.size 3 1 v zs.length (il zs)) := hown
  have hB1 : Hid (Below w.heap.size w w1) := hbl1
  clear hfq hown hbl1
  go_wp2_with fail
  refine (compact_c v zs _ _ hO.out hl).mono ?_
  rintro e w2 ⟨v2, rfl, hr2, hb2⟩
  have hR : Hid (RdI w2 v2 (cn zs)) := hr2
  have hBl : Hid (Below w.heap.size w w2) := hB1.out.trans hb2
  have hl2 : (cn zs).length ≤ 32 := Nat.le_trans (cn_len zs) hl
  clear hr2 hb2 hB1 hO hl
  go_wp2_with fail
  go_loopw [5] (fun sg wx => ∃ g k : Nat, 1 ≤ g ∧ g < p ∧ sg = .int .i64 g ∧ wx = w2.drewN k ∧ Hid (∀ h, 1 ≤ h → h < g → ¬ good p h)) (fun sg _ => p - (RowKit.intOf sg).toNat)
  case atStart => exact ⟨1, 0, Nat.le_refl _, by omega, rfl, rfl, fun h h1 h2 => absurd h2 (by omega)⟩
  case round =>
    obtain ⟨g, k, g1, gp, rfl, rfl, hno⟩ := hrel
    go_wp2_with fail
    refine (reaches_c p g v2 (cn zs) (w2.drewN k) h2 hp (by omega) (hR.out.drewN k) (fun q hq => ((hF.out q).1 hq).1.1) hl2).mono ?_
    rintro e w3 ⟨rfl, k1, rfl⟩
    have hg := lookB_good (g := g) (show 0 < p by omega) hF.out
    cases hL : lookB p g (cn zs)
    · have hng : Hid (¬ good p g) := fun hh => by rw [hg.2 hh] at hL; cases hL
      have hnext : g + 1 < p := by
        obtain ⟨h, h1, h2', h3⟩ := good_ex hPH.out hF.out
        apply Nat.lt_of_not_le
        intro hc
        by_cases e : h = g
        · subst e; exact hng.out h3
        · exact hno.out h (by omega) (by omega) h3
      have hno' : Hid (∀ h, 1 ≤ h → h < g + 1 → ¬ good p h) := fun h a1 a2 => if e : h = g then by rw [e]; exact hng.out else hno.out h a1 (by omega)
      have hwg : wrap64 ((g : Int) + 1) = ((g + 1 : Nat) : Int) := by unfold wrap64; omega
      clear hg hL
      go_wp2
      go_roundw
      case rel => exact ⟨g + 1, k + k1, by omega, hnext, by go_num, rfl, hno'⟩
      case measure => simp [RowKit.intOf]; omega
    · have hgd : Hid (Rt p g) := ⟨g1, gp, hg.1 hL, hno.out⟩
      clear hg hL
      go_wp2
      go_ret2
      exact ⟨g, rfl, hgd.out, below_drewN hBl.out _⟩
theorem p5 : P5 where
  gcd := fun a b w ha hb => (pGcd_c a b w ha hb).mono fun _ _ ⟨h, k, hk⟩ => ⟨h, by rw [hk]; exact below_drewN (Below.refl _ _) k⟩
  mul := pMul_c
  pow := pPow_c
  invOk := fun a m w ha hm h => (pInv_ok a m w ha hm h).mono fun _ _ ⟨h, k, hk⟩ => ⟨h, by rw [hk]; exact below_drewN (Below.refl _ _) k⟩
  invNo := fun a m w al he ha hm h => (pInv_no a m w al he ha hm h).mono fun _ _ ⟨h, k, hk⟩ => ⟨h, by rw [hk]; exact below_drewN (Below.refl _ _) k⟩
  joinOk := fun a m b n w ha hm hb hn m0 n0 hmn hg => (pJoin_2 a m b n w ha hb m0 n0 hmn hm hn hg).mono fun _ _ ⟨h, k, hk⟩ => ⟨h, by rw [hk]; exact below_drewN (Below.refl _ _) k⟩
  joinRange := fun a m b n w al he _ hm _ hn h => (pJoin_0 a m b n w al he hm hn h).mono fun _ _ ⟨h, k, hk⟩ => ⟨h, by rw [hk]; exact below_drewN (Below.refl _ _) k⟩
  joinRoot := fun a m b n w al he _ hm _ hn m0 n0 hmn hg => (pJoin_1 a m b n w al he m0 n0 hmn hm hn hg).mono fun _ _ ⟨h, k, hk⟩ => ⟨h, by rw [hk]; exact below_drewN (Below.refl _ _) k⟩
  factors := pFactors_n
  factorsNo := fun n w h => (pFactors_no n w h).mono fun _ _ ⟨h, hk⟩ => ⟨_, h, World.ownsRow_nil _ _ _ _, by rw [hk]; exact Below.refl _ _⟩
  prime := fun n w _ => (pPrime_c n w).mono fun _ _ ⟨h, hk⟩ => ⟨h, by rw [← hk]; exact Below.refl _ _⟩
  rootOk := pRoot_p
  rootNo := fun n w al he _ h => (pRoot_no n w al he h).mono fun _ _ ⟨h, k, hk⟩ => ⟨h, by rw [hk]; exact below_drewN (Below.refl _ _) k⟩
end Go.Proofs.YtkgecgkjmikihabDoor
