/-
  timbreref15: InForm.
-/
import Derived.Test.YtbipgkbnhpdmhaaDoorSp6
import Derived.Test.YtbipgkbnhpdmhaaDoorSd3
namespace Go.Proofs.YtbipgkbnhpdmhaaDoor
open Flo Go.RowKit
theorem hd_all (p : Sp.Pg) (b : Bool) (h : (Sp.wi p.len 0 262144 && (Sp.wi p.cells 0 262144 && (Sp.wi p.inn 0 262144 && Sp.wi p.out 0 262144))) = b) : ((Sp.hd p).all fun x => Sp.wi x 0 262144) = b := by
  rw [← h]; simp [Sp.hd]
set_option maxHeartbeats 8000000 in
set_option maxRecDepth 100000 in
theorem dinForm_c (p : Sp.Pg) (ao : Option Addr) (n c : Nat) (w : World) (ha : Ss w ao p.steps) (hn : n = p.steps.length) :
    Calls Tryd.prog 39 #[pv p (.slice ao n c)] w fun e w' => e = .returned (.bool (Sp.inf p)) ∧ Below w.heap.size w w' := by
  obtain ⟨g, hg⟩ : ∃ g, Hid (w.heap.size = g) := ⟨_, (rfl : _ = _)⟩
  obtain ⟨wa, ewa⟩ : ∃ wa, Hid (w.alloc (.cells #[.int .i64 p.len, .int .i64 p.cells, .int .i64 p.inn, .int .i64 p.out, .slice ao n c] 38) = wa) := ⟨_, (rfl : _ = _)⟩
  have Ba : Hid (Below w.heap.size w wa) := by rw [← ewa.out]; exact (Below.refl _ _).alloc (Nat.le_refl _) _
  have X1 : Hid (Bpg wa g p (.slice ao n c)) := by rw [← ewa.out, ← hg.out]; exact Bpg.new w p (.slice ao n c)
  have haH : Hid (Ss wa ao p.steps) := ha.below Ba.out
  have hnH : Hid (n = p.steps.length) := hn
  clear ha hn
  obtain ⟨r, hr⟩ : ∃ r, Hid (Sp.inf p = r) := ⟨_, (rfl : _ = _)⟩
  rw [hr.out]
  obtain ⟨b1, h1⟩ : ∃ b, Hid (Sp.wi p.len 0 262144 = b) := ⟨_, (rfl : _ = _)⟩
  obtain ⟨b2, h2⟩ : ∃ b, Hid (Sp.wi p.cells 0 262144 = b) := ⟨_, (rfl : _ = _)⟩
  obtain ⟨b3, h3⟩ : ∃ b, Hid (Sp.wi p.inn 0 262144 = b) := ⟨_, (rfl : _ = _)⟩
  obtain ⟨b4, h4⟩ : ∃ b, Hid (Sp.wi p.out 0 262144 = b) := ⟨_, (rfl : _ = _)⟩
  obtain ⟨bo, hbo⟩ : ∃ b, Hid ((b1 && (b2 && (b3 && b4))) = b) := ⟨_, (rfl : _ = _)⟩
  have hall : Hid (((Sp.hd p).all fun x => Sp.wi x 0 262144) = bo) := hd_all p bo (by rw [h1.out, h2.out, h3.out, h4.out]; exact hbo.out)
  unfold pv
  go_enter Tryd.func39, Tryd.ntmps39
  go_upto_region 1 with fail
  rw [ewa.out, hg.out]
  obtain ⟨x0, x1, x2, x3, x4⟩ := X1.out
  go_cut [3] (fun s wx => s = .bool bo ∧ wx = wa)
  case first =>
    go_wp2_with fail
    refine (dwithin_c _ _ _ b1 h1.out wa).mono ?_
    rintro e w2 ⟨rfl, rfl⟩
    cases b1 with
    | false =>
      go_wp2_with fail
      go_meet
      case rel => exact ⟨congrArg Value.bool hbo.out, rfl⟩
    | true =>
    go_wp2_with fail
    refine (dwithin_c _ _ _ b2 h2.out wa).mono ?_
    rintro e w2 ⟨rfl, rfl⟩
    cases b2 with
    | false =>
      go_wp2_with fail
      go_meet
      case rel => exact ⟨congrArg Value.bool hbo.out, rfl⟩
    | true =>
    go_wp2_with fail
    refine (dwithin_c _ _ _ b3 h3.out wa).mono ?_
    rintro e w2 ⟨rfl, rfl⟩
    cases b3 with
    | false =>
      go_wp2_with fail
      go_meet
      case rel => exact ⟨congrArg Value.bool hbo.out, rfl⟩
    | true =>
    go_wp2_with fail
    refine (dwithin_c _ _ _ b4 h4.out wa).mono ?_
    rintro e w2 ⟨rfl, rfl⟩
    go_wp2_with fail
    go_meet
    case rel => exact ⟨congrArg Value.bool hbo.out, rfl⟩
  case rest =>
    obtain ⟨rfl, rfl⟩ := hcut
    clear h1 h2 h3 h4 hbo
    cases bo with
    | false =>
      have hf : Hid (r = false) := by show _ = _; rw [← hr.out]; unfold Sp.inf; rw [hall.out]; rfl
      go_wp2
      go_ret
      exact ⟨by rw [hf.out]; rfl, Ba.out⟩
    | true =>
      by_cases hbig : 65536 < n
      · have hf : Hid (r = false) := hr.out.symm.trans (inf_len (by rw [← hnH.out]; exact hbig))
        have hb' : (65536 : Int) < (n : Int) := by omega
        go_wp2
        go_ret
        exact ⟨by rw [hf.out]; rfl, Ba.out⟩
      · have hb' : decide ((65536 : Int) < (n : Int)) = false := decide_eq_false (by omega)
        have hb2 : ¬ 65536 < n := hbig
        go_wp2
        go_loopw [36] (fun i wr => ∃ k : Nat, k ≤ n ∧ i = .int .i64 k ∧ Hid (∀ j s, j < k → p.steps[j]? = some s → Sp.fm s = true) ∧ Hid (Below wc.heap.size wc wr)) (fun i _ => n - (intOf i).toNat)
        case atStart => exact ⟨0, Nat.zero_le _, rfl, (fun j s h => absurd h (by omega)), Below.refl _ _⟩
        case round =>
          obtain ⟨m, hm, rfl, hfm, hBr⟩ := hrel
          by_cases hlm : m < n
          · have hlm' : (m : Int) < (n : Int) := by omega
            obtain ⟨s, hs⟩ : ∃ s, p.steps[m]? = some s := ⟨_, List.getElem?_eq_getElem (by rw [← hnH.out]; exact hlm)⟩
            obtain ⟨q, o, rfl, hat⟩ := haH.out m s hs
            obtain ⟨y0, y1, y2, y3, y4, y5, y6⟩ := hat.below hBr.out
            obtain ⟨wb, ewb⟩ : ∃ wb, Hid (wr.alloc (.cells #[.int .i64 s.op, .int .i64 s.dst, .int .i64 s.src, .int .i64 s.jump, .int .i64 s.count, .int .i64 s.n, .int .i64 s.k] 30) = wb) := ⟨_, (rfl : _ = _)⟩
            have Bb : Hid (Below wc.heap.size wc wb) := by rw [← ewb.out]; exact hBr.out.alloc hBr.out.size _
            have Xb : Hid (Bst wb wr.heap.size s.op s.dst s.src s.jump s.count s.n s.k) := by show Bst _ _ _ _ _ _ _ _ _; rw [← ewb.out]; exact Bst.new wr _ _ _ _ _ _ _
            have hsH : Hid (p.steps[m]? = some s) := hs
            have hfo : Hid (Calls Tryd.prog 14 #[sv s] wb fun e w' => e = .returned (.int .i64 (fnn (Sp.fm s))) ∧ Below wb.heap.size wb w') := dform_c s wb
            unfold sv sva at hfo
            clear hs hat
            obtain ⟨b, hb⟩ : ∃ b, Hid (Sp.fm s = b) := ⟨_, (rfl : _ = _)⟩
            rw [hb.out] at hfo
            go_upto_region 7 with fail
            rw [ewb.out]
            clear y0 y1 y2 y3 y4 y5 y6
            obtain ⟨y0, y1, y2, y3, y4, y5, y6⟩ := Xb.out
            go_wp2_with fail
            refine hfo.out.mono ?_
            rintro e w3 ⟨rfl, B3⟩
            have hB3 : Hid (Below wc.heap.size wc w3) := Bb.out.trans (B3.mono Bb.out.size)
            clear y0 y1 y2 y3 y4 y5 y6 B3 hfo
            cases b with
            | false =>
              have hf : Hid (r = false) := hr.out.symm.trans (inf_st hsH.out hb.out)
              have e1 : fnn false = 9 := rfl
              go_wp2
              go_ret
              exact ⟨by rw [hf.out]; rfl, Ba.out.trans (hB3.out.mono Ba.out.size)⟩
            | true =>
              have e1 : fnn true = 0 := rfl
              have hfm2 : Hid (∀ j s, j < m + 1 → p.steps[j]? = some s → Sp.fm s = true) := fun j t hj ht => by
                by_cases e : j = m
                · rw [e, hsH.out] at ht; cases ht; exact hb.out
                · exact hfm.out j t (by omega) ht
              clear hfm hb
              go_wp2
              go_roundw
              case rel => exact ⟨m + 1, by omega, by go_num, hfm2, hB3⟩
              case measure => simp [intOf]; omega
          · have hlm' : decide ((m : Int) < (n : Int)) = false := decide_eq_false (by omega)
            have hlm2 : ¬ m < n := hlm
            have hf : Hid (r = true) := by
              show _ = _
              rw [← hr.out]
              unfold Sp.inf
              rw [hall.out, Bool.true_and, decide_eq_true (by rw [← hnH.out]; omega), Bool.true_and, List.all_eq_true]
              intro s hs
              obtain ⟨i, hi, e⟩ := List.mem_iff_getElem.1 hs
              exact hfm.out i s (by rw [← hnH.out] at hi; omega) (by rw [List.getElem?_eq_getElem hi, e])
            clear hfm
            go_wp2
            go_ret
            exact ⟨by rw [hf.out]; rfl, Ba.out.trans (hBr.out.mono Ba.out.size)⟩
end Go.Proofs.YtbipgkbnhpdmhaaDoor
