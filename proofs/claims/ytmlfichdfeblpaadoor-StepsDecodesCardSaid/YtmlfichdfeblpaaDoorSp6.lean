/-
  Package steps: inForm.
-/
import Derived.Test.YtmlfichdfeblpaaDoorSp5
namespace Go.Proofs.YtmlfichdfeblpaaDoor
open Flo Go.RowKit
theorem inf_hd {p : Sp.Pg} {k : Nat} (hk : k < 4) (h : Sp.wi ((Sp.hd p).getD k 0) 0 262144 = false) : Sp.inf p = false := by
  cases e : Sp.inf p with
  | false => rfl
  | true =>
    obtain ⟨h1, _⟩ := Sp.inf_parts e
    have hl : (Sp.hd p).length = 4 := rfl
    have hm : (Sp.hd p).getD k 0 ∈ Sp.hd p := by
      rw [List.getD_eq_getElem?_getD, List.getElem?_eq_getElem (by rw [hl]; exact hk)]
      exact List.getElem_mem _
    rw [Sp.wi_iff.2 (h1 _ hm)] at h
    cases h
theorem inf_len {p : Sp.Pg} (h : 65536 < p.steps.length) : Sp.inf p = false := by
  cases e : Sp.inf p with
  | false => rfl
  | true => obtain ⟨_, h1, _⟩ := Sp.inf_parts e; omega
theorem inf_st {p : Sp.Pg} {i : Nat} {s : Sp.St} (hi : p.steps[i]? = some s) (h : Sp.fm s = false) : Sp.inf p = false := by
  cases e : Sp.inf p with
  | false => rfl
  | true =>
    obtain ⟨_, _, h1⟩ := Sp.inf_parts e
    rw [h1 s (List.mem_of_getElem? hi)] at h
    cases h
theorem inf_all {p : Sp.Pg} (h1 : ∀ k, k < 4 → Sp.wi ((Sp.hd p).getD k 0) 0 262144 = true) (h2 : p.steps.length ≤ 65536) (h3 : ∀ (i : Nat) (s : Sp.St), p.steps[i]? = some s → Sp.fm s = true) : Sp.inf p = true := by
  simp only [Sp.inf, Bool.and_eq_true, List.all_eq_true, decide_eq_true_eq]
  refine ⟨fun x hx => ?_, h2, fun s hs => ?_⟩
  · obtain ⟨i, hi, e⟩ := List.mem_iff_getElem.1 hx
    have hl : (Sp.hd p).length = 4 := rfl
    have := h1 i (by rw [← hl]; exact hi)
    rw [List.getD_eq_getElem?_getD, List.getElem?_eq_getElem hi] at this
    rw [← e]; exact this
  · obtain ⟨i, hi, e⟩ := List.mem_iff_getElem.1 hs
    exact h3 i s (by rw [List.getElem?_eq_getElem hi, e])
theorem na4_index (p : Sp.Pg) (k : Nat) (hk : k < 4) (w : World) : (Instr.index 63 (na (Sp.hd p)) (.int .i64 (k : Nat))).run Tryd.prog w = .ok (.int .i64 ((Sp.hd p).getD k 0)) w :=
  match k, hk with
  | 0, _ => by kernel_rfl
  | 1, _ => by kernel_rfl
  | 2, _ => by kernel_rfl
  | 3, _ => by kernel_rfl
  | n + 4, h => absurd h (by omega)
theorem na6_index (s : Sp.St) (k : Nat) (hk : k < 6) (w : World) : (Instr.index 95 (na (Sp.nl s)) (.int .i64 (k : Nat))).run Tryd.prog w = .ok (.int .i64 ((Sp.nl s).getD k 0)) w :=
  match k, hk with
  | 0, _ => by kernel_rfl
  | 1, _ => by kernel_rfl
  | 2, _ => by kernel_rfl
  | 3, _ => by kernel_rfl
  | 4, _ => by kernel_rfl
  | 5, _ => by kernel_rfl
  | n + 6, h => absurd h (by omega)
set_option maxHeartbeats 4000000 in
set_option maxRecDepth 100000 in
theorem sinForm_c (p : Sp.Pg) (ao : Option Addr) (n c : Nat) (al : List Addr) (w : World) (ha : Ss w ao p.steps) (hn : n = p.steps.length) (hO : Ops w) (he : Pe w al) :
    Calls Tryd.prog 21 #[pv p (.slice ao n c)] w fun e w' => e = .returned (.bool (Sp.inf p)) ∧ Below w.heap.size w w' := by
  obtain ⟨wa, ewa⟩ : ∃ wa, Hid (w.alloc (.cells #[.int .i64 p.len, .int .i64 p.cells, .int .i64 p.inn, .int .i64 p.out, .slice ao n c] 26) = wa) := ⟨_, (rfl : _ = _)⟩
  have Ba : Hid (Below w.heap.size w wa) := by rw [← ewa.out]; exact (Below.refl _ _).alloc (Nat.le_refl _) _
  have X1 : Hid (Bpg wa w.heap.size p (.slice ao n c)) := by rw [← ewa.out]; exact Bpg.new w p (.slice ao n c)
  have haH : Hid (Ss wa ao p.steps) := ha.below Ba.out
  have hOH : Hid (Ops wa) := hO.below Ba.out
  have heH : Hid (Pe wa al) := he.below Ba.out
  have hnH : Hid (n = p.steps.length) := hn
  have hhd : Hid (Calls Tryd.prog 23 #[pv p (.slice ao n c)] wa fun e w' => e = .returned (na (Sp.hd p)) ∧ Below wa.heap.size wa w') := shead_c p ao n c wa
  have hix : ∀ k, k < 4 → ∀ W : World, (Instr.index 63 (na (Sp.hd p)) (.int .i64 (k : Nat))).run Tryd.prog W = .ok (.int .i64 ((Sp.hd p).getD k 0)) W := fun k hk W => na4_index p k hk W
  have hixH : Hid (∀ k, k < 4 → ∀ W : World, (Instr.index 63 (na (Sp.hd p)) (.int .i64 (k : Nat))).run Tryd.prog W = .ok (.int .i64 ((Sp.hd p).getD k 0)) W) := hix
  generalize na (Sp.hd p) = hv at hhd hixH
  clear ha hO he hn hix
  unfold pv at *
  go_enter Tryd.func21, Tryd.ntmps21
  go_upto_region 1 with fail
  rw [ewa.out]
  obtain ⟨x0, x1, x2, x3, x4⟩ := X1.out
  go_wp2_with fail
  refine hhd.out.mono ?_
  rintro e w1 ⟨rfl, B1⟩
  have X2 := X1.out.below B1
  have hB1 : Hid (Below wa.heap.size wa w1) := B1
  clear x0 x1 x2 x3 x4 X1 B1 hhd
  obtain ⟨x0, x1, x2, x3, x4⟩ := X2
  go_wp2
  go_loop [9] (fun i => ∃ k : Nat, k ≤ 4 ∧ i = .int .i64 k ∧ Hid (∀ j, j < k → Sp.wi ((Sp.hd p).getD j 0) 0 262144 = true)) (fun i => 4 - (intOf i).toNat)
  case atStart => exact ⟨0, Nat.zero_le _, rfl, fun j h => absurd h (by omega)⟩
  case round =>
    obtain ⟨k, hk, rfl, hall⟩ := hrel
    by_cases hlt : k < 4
    · have hlt' : (k : Int) < 4 := by omega
      have hi := hixH.out k hlt
      obtain ⟨z, hz⟩ : ∃ z, Hid ((Sp.hd p).getD k 0 = z) := ⟨_, (rfl : _ = _)⟩
      rw [hz.out] at hi
      obtain ⟨b, hb⟩ : ∃ b, Hid (Sp.wi z 0 262144 = b) := ⟨_, (rfl : _ = _)⟩
      go_wp2_with fail
      refine (swithin_c _ _ _ b hb.out w1).mono ?_
      rintro e w2 ⟨rfl, rfl⟩
      cases b with
      | false =>
        have hf : Hid (Sp.inf p = false) := inf_hd hlt (by rw [hz.out]; exact hb.out)
        go_wp2_with fail
        go_ret
        exact ⟨by rw [hf.out]; rfl, Ba.out.trans (hB1.out.mono Ba.out.size)⟩
      | true =>
        have hall2 : Hid (∀ j, j < k + 1 → Sp.wi ((Sp.hd p).getD j 0) 0 262144 = true) := fun j hj => by
          by_cases e : j = k
          · rw [e, hz.out]; exact hb.out
          · exact hall.out j (by omega)
        clear hall hb hz hi
        go_wp2_with fail
        go_round
        case rel => exact ⟨k + 1, by omega, by go_num, hall2⟩
        case measure => simp [intOf]; omega
    · have hlt' : decide ((k : Int) < 4) = false := decide_eq_false (by omega)
      have hall4 : Hid (∀ j, j < 4 → Sp.wi ((Sp.hd p).getD j 0) 0 262144 = true) := fun j hj => hall.out j (by omega)
      have hk4 : k = 4 := by omega
      clear hall
      by_cases hbig : 65536 < n
      · have hf : Hid (Sp.inf p = false) := inf_len (by rw [← hnH.out]; exact hbig)
        have hb' : (65536 : Int) < (n : Int) := by omega
        go_wp2_with fail
        go_ret
        exact ⟨by rw [hf.out]; rfl, Ba.out.trans (hB1.out.mono Ba.out.size)⟩
      · have hb' : decide ((65536 : Int) < (n : Int)) = false := decide_eq_false (by omega)
        have hb2 : ¬ 65536 < n := hbig
        go_wp2
        go_loopw [23] (fun i wr => ∃ k : Nat, k ≤ n ∧ i = .int .i64 k ∧ Hid (∀ j s, j < k → p.steps[j]? = some s → Sp.fm s = true) ∧ Hid (Below wa.heap.size wa wr)) (fun i _ => n - (intOf i).toNat)
        case atStart => exact ⟨0, Nat.zero_le _, rfl, (fun j s h => absurd h (by omega)), hB1⟩
        case round =>
          obtain ⟨m, hm, rfl, hfm, hBr⟩ := hrel
          by_cases hlm : m < n
          · have hlm' : (m : Int) < (n : Int) := by omega
            obtain ⟨s, hs⟩ : ∃ s, p.steps[m]? = some s := ⟨_, List.getElem?_eq_getElem (by rw [← hnH.out]; exact hlm)⟩
            obtain ⟨q, o, rfl, hat⟩ := haH.out m s hs
            obtain ⟨y0, y1, y2, y3, y4, y5, y6⟩ := hat.below hBr.out
            obtain ⟨wb, ewb⟩ : ∃ wb, Hid (wr.alloc (.cells #[.int .i64 s.op, .int .i64 s.dst, .int .i64 s.src, .int .i64 s.jump, .int .i64 s.count, .int .i64 s.n, .int .i64 s.k] 36) = wb) := ⟨_, (rfl : _ = _)⟩
            have Bb : Hid (Below wa.heap.size wa wb) := by rw [← ewb.out]; exact hBr.out.alloc hBr.out.size _
            have Xb : Hid (Bst wb wr.heap.size s.op s.dst s.src s.jump s.count s.n s.k) := by show Bst _ _ _ _ _ _ _ _ _; rw [← ewb.out]; exact Bst.new wr _ _ _ _ _ _ _
            have hsH : Hid (p.steps[m]? = some s) := hs
            have hfo : Hid (Calls Tryd.prog 13 #[sv s] wb fun e w' => e = .returned (fev al (Sp.fm s)) ∧ Below wb.heap.size wb w') := sform_c s al wb (hOH.out.below Bb.out) (heH.out.below Bb.out)
            unfold sv sva at hfo
            clear hs hat
            obtain ⟨b, hb⟩ : ∃ b, Hid (Sp.fm s = b) := ⟨_, (rfl : _ = _)⟩
            rw [hb.out] at hfo
            go_upto_region 12 with fail
            rw [ewb.out]
            clear y0 y1 y2 y3 y4 y5 y6
            obtain ⟨y0, y1, y2, y3, y4, y5, y6⟩ := Xb.out
            go_wp2_with fail
            refine hfo.out.mono ?_
            rintro e w3 ⟨rfl, B3⟩
            have hB3 : Hid (Below wa.heap.size wa w3) := Bb.out.trans (B3.mono Bb.out.size)
            clear y0 y1 y2 y3 y4 y5 y6 B3 hfo
            cases b with
            | false =>
              have hf : Hid (Sp.inf p = false) := inf_st hsH.out hb.out
              have e1 : fev al false = ek al 8 := rfl
              have hq := nnil_c al 8
              have hgd := guard_c al 8
              go_wp2
              go_ret
              exact ⟨by rw [hf.out]; rfl, Ba.out.trans (hB3.out.mono Ba.out.size)⟩
            | true =>
              have e1 : fev al true = .nilIface := rfl
              have hfm2 : Hid (∀ j s, j < m + 1 → p.steps[j]? = some s → Sp.fm s = true) := fun j t hj ht => by
                by_cases e : j = m
                · rw [e, hsH.out] at ht; cases ht; exact hb.out
                · exact hfm.out j t (by omega) ht
              clear hfm hb
              go_wp2
              go_roundw
              case rel => exact ⟨m + 1, by omega, by go_num, hfm2, hB3⟩
              case measure => simp [intOf]; omega
          · have hlm' : decide ((m : Int) < (n : Int)) = false := decide_eq_false (by omega)
            have hlm2 : ¬ m < n := hlm
            have hf : Hid (Sp.inf p = true) := inf_all hall4.out (by rw [← hnH.out]; omega) (fun i s hi => hfm.out i s (by
              have := (List.getElem?_eq_some_iff.1 hi).1
              rw [← hnH.out] at this; omega) hi)
            clear hfm
            go_wp2
            go_ret
            exact ⟨by rw [hf.out]; rfl, Ba.out.trans (hBr.out.mono Ba.out.size)⟩
end Go.Proofs.YtmlfichdfeblpaaDoor
