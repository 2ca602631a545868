/-
  timbrenat: rounded.
-/
import Derived.Test.YtmfnjmgdindlaaaNa7
import Derived.Test.YtmfnjmgdindlaaaNea
import Derived.Test.YtmfnjmgdindlaaaRdn
namespace Go.Proofs.Ytmfnjmgdindlaaa
open Flo Go.RowKit
/-- rounded to the nearest, a half to the even one; 'more': something is left below -/
def rnm (q dr : Nat) (more : Bool) : Nat := q / 2 ^ dr + if 2 ^ (dr - 1) < q % 2 ^ dr ∨ (q % 2 ^ dr = 2 ^ (dr - 1) ∧ (more = true ∨ q / 2 ^ dr % 2 = 1)) then 1 else 0
/-- what rounded answers -/
def nres (s : Nat) : Value := if s < Rd.inf then .tuple #[.int .u64 (s : Int), .bool false] else .tuple #[.int .u64 9218868437227405312, .bool true]
theorem ret_tup {a b : Int} {v : Value} (h : a = b) : Ending.returned (.tuple #[.int .u64 a, v]) = .returned (.tuple #[.int .u64 b, v]) := by rw [h]
theorem nr_up {q j : Nat} {more : Bool} (h : 2 ^ (j - 1) < q % 2 ^ j ∨ (q % 2 ^ j = 2 ^ (j - 1) ∧ (more = true ∨ q / 2 ^ j % 2 = 1))) : ((q / 2 ^ j : Nat) : Int) + 1 = ((rnm q j more : Nat) : Int) := by
  unfold rnm; rw [if_pos h]; rfl
theorem nr_down {q j : Nat} {more : Bool} (h : ¬ (2 ^ (j - 1) < q % 2 ^ j ∨ (q % 2 ^ j = 2 ^ (j - 1) ∧ (more = true ∨ q / 2 ^ j % 2 = 1)))) : ((q / 2 ^ j : Nat) : Int) = ((rnm q j more : Nat) : Int) := by
  unfold rnm; rw [if_neg h]; rfl
theorem nr_small {E x : Nat} {M : Int} (h0 : E = 0 ∨ 4503599627370496 ≤ x) (hM : M = (x : Int)) (h : M < 4503599627370496) : nres (E * 4503599627370496 + x) = .tuple #[.int .u64 M, .bool false] := by
  have : E = 0 := by omega
  subst this
  rw [Nat.zero_mul, Nat.zero_add]
  unfold nres Rd.inf
  rw [if_pos (by omega), hM]
theorem nr_over {E x : Nat} {M : Int} (hM : M = (x : Int)) (h : 9218868437227405312 ≤ (E : Int) * 4503599627370496 + M) : nres (E * 4503599627370496 + x) = .tuple #[.int .u64 9218868437227405312, .bool true] := by
  unfold nres Rd.inf
  rw [if_neg (by omega)]
theorem nr_mid {E x : Nat} {M R : Int} (hM : M = (x : Int)) (hR : R = (E : Int) * 4503599627370496 + M) (h : (E : Int) * 4503599627370496 + M < 9218868437227405312) : nres (E * 4503599627370496 + x) = .tuple #[.int .u64 R, .bool false] := by
  unfold nres Rd.inf
  rw [if_pos (by omega)]
  have : R = ((E * 4503599627370496 + x : Nat) : Int) := by omega
  rw [this]
theorem and_pw (q k : Nat) (h : q < 18446744073709551616) (hk : k < 64) : bits .and .u64 (q : Int) (((2 ^ k - 1 : Nat)) : Int) = ((q % 2 ^ k : Nat) : Int) := by
  have h1 : 2 ^ k < 2 ^ 64 := Nat.pow_lt_pow_right (by decide) hk
  rw [bits_and_u64_nat _ _ h (by omega), Nat.and_two_pow_sub_one_eq_mod]
theorem wr_pw (k : Nat) (hk : k < 64) : IntKind.u64.wrap ((2 : Int) ^ k) = ((2 ^ k : Nat) : Int) := by
  have h1 : 2 ^ k < 2 ^ 64 := Nat.pow_lt_pow_right (by decide) hk
  have h2 : (2 : Int) ^ k = ((2 ^ k : Nat) : Int) := by simp
  rw [h2]; exact wrapId _ (by omega)
theorem wr_pw1 (k : Nat) (hk : k < 64) : IntKind.u64.wrap (IntKind.u64.wrap ((2 : Int) ^ k) - 1) = ((2 ^ k - 1 : Nat) : Int) := by
  have h1 : 2 ^ k < 2 ^ 64 := Nat.pow_lt_pow_right (by decide) hk
  have h3 : 0 < 2 ^ k := Nat.pow_pos (by decide)
  rw [wr_pw k hk, show ((2 ^ k : Nat) : Int) - 1 = ((2 ^ k - 1 : Nat) : Int) by omega]
  exact wrapId _ (by omega)
set_option maxRecDepth 100000 in
set_option maxHeartbeats 4000000 in
theorem nround_n (q n0 dr E : Nat) (e : Int) (more : Bool) (w : World) (he : max 0 (-1074 - e) = (n0 : Int)) (hn0 : n0 ≤ dr) (hdr1 : 1 ≤ dr) (hdr2 : dr ≤ 10) (he1 : -1076 ≤ e) (he2 : e ≤ 100000) (hq : q < 72057594037927936) (hlo : Hid (∀ j, n0 ≤ j → j < dr → 9007199254740992 ≤ q / 2 ^ j)) (hhi : Hid (q / 2 ^ dr < 9007199254740992))
    (hE : Hid ((E : Int) = e + dr + 1074)) (hE00 : Hid (E = 0 ∨ 4503599627370496 ≤ q / 2 ^ dr)) :
    Calls Try.prog 53 #[.int .u64 q, .int .i64 e, .bool more] w fun e w' => e = .returned (nres (E * 4503599627370496 + rnm q dr more)) ∧ w = w' := by
  go_enter Try.func53, Try.ntmps53
  go_wp2
  all_goals (
    go_loop [8] (fun s => ∃ j : Nat, n0 ≤ j ∧ j ≤ dr ∧ s = .int .i64 j) (fun s => dr - (intOf s).toNat)
    case atStart => exact ⟨n0, Nat.le_refl _, hn0, by congr 1; omega⟩
    case round =>
      obtain ⟨j, hj1, hj2, rfl⟩ := hrel
      by_cases hlt : j < dr
      · have hge : 9007199254740992 ≤ (q : Int) / 2 ^ j := by
          have := hlo.out j hj1 hlt
          have e9 : (q : Int) / 2 ^ j = ((q / 2 ^ j : Nat) : Int) := by simp
          rw [e9]; omega
        go_wp2
        go_round
        case rel => exact ⟨j + 1, by omega, by omega, by go_num⟩
        case measure => simp [intOf]; omega
      · have hj : j = dr := by omega
        subst hj
        have hjl : j < 64 := by omega
        obtain ⟨jp, hjp⟩ : ∃ jp : Nat, Hid (jp = j - 1) := ⟨_, rfl⟩
        have hjpI : (j : Int) - 1 = (jp : Int) := by have := hjp.out; omega
        have hjpl : jp < 64 := by have := hjp.out; omega
        have hj0 : (0 : Int) < (j : Int) := by omega
        obtain ⟨m, hm⟩ : ∃ m : Int, Hid (m = ((q / 2 ^ j : Nat) : Int)) := ⟨_, rfl⟩
        have hmI : (q : Int) / 2 ^ j = m := by rw [hm.out]; simp
        have hm53 : m < 9007199254740992 := by have := hhi.out; rw [hm.out]; omega
        have hm0 : 0 ≤ m := by rw [hm.out]; exact Int.natCast_nonneg _
        obtain ⟨l, hl⟩ : ∃ l : Int, Hid (l = ((q % 2 ^ j : Nat) : Int)) := ⟨_, rfl⟩
        obtain ⟨H, hH⟩ : ∃ H : Int, Hid (H = ((2 ^ (j - 1) : Nat) : Int)) := ⟨_, rfl⟩
        have hand : bits .and .u64 (q : Int) (IntKind.u64.wrap (IntKind.u64.wrap ((2 : Int) ^ j) - 1)) = l := by rw [wr_pw1 j hjl, hl.out]; exact and_pw q j (by omega) hjl
        have hhalf : IntKind.u64.wrap ((2 : Int) ^ jp) = H := by rw [wr_pw jp hjpl, hH.out, hjp.out]
        have hE0 : Hid (E = 0 ∨ 4503599627370496 ≤ rnm q j more) := by
          rcases hE00.out with h9 | h9
          · exact .inl h9
          · exact .inr (Nat.le_trans h9 (Nat.le_add_right _ _))
        have hqH : Hid (q < 72057594037927936) := hq
        have hl1 : Hid (H < l ↔ 2 ^ (j - 1) < q % 2 ^ j) := by rw [hl.out, hH.out]; exact Int.ofNat_lt
        have hl2 : Hid (l = H ↔ q % 2 ^ j = 2 ^ (j - 1)) := by rw [hl.out, hH.out]; exact Int.ofNat_inj
        have hm2 : Hid (m % 2 = 1 ↔ q / 2 ^ j % 2 = 1) := by rw [hm.out]; exact (by omega : ((q / 2 ^ j : Nat) : Int) % 2 = 1 ↔ q / 2 ^ j % 2 = 1)
        clear hq hhi hlo hj1 hj2 hlt hn0 he hE00
        rcases Int.lt_trichotomy l H with c | c | c
        · have c1 : ¬ (H < l) := by omega
          have c2 : (l == H) = false := beq_eq_false_iff_ne.2 (by omega)
          have hMr : Hid (m = ((rnm q j more : Nat) : Int)) := by rw [hm.out]; exact nr_down (fun h => by rcases h with h | h; exact c1 (hl1.out.2 h); have := hl2.out.2 h.1; omega)
          have hM53 : m ≤ 9007199254740992 := by omega
          clear c
          generalize hmM : m = M at *
          clear hmM
          by_cases hm : M < 4503599627370496
          · have hm1 : (M == 9007199254740992) = false := beq_eq_false_iff_ne.2 (by omega)
            have hfin : Hid (nres (E * 4503599627370496 + rnm q j more) = .tuple #[.int .u64 M, .bool false]) := nr_small hE0.out hMr.out hm
            clear hM53 hE0 hMr
            go_wp2
            go_ret2
            exact ⟨by rw [hfin.out]; rfl, rfl⟩
          · by_cases h53 : M = 9007199254740992
            · exact absurd h53 (by omega)
            · have hm1 : (M == 9007199254740992) = false := beq_eq_false_iff_ne.2 h53
              by_cases hov : 971 < e + (j : Int)
              · have hfin : Hid (nres (E * 4503599627370496 + rnm q j more) = .tuple #[.int .u64 9218868437227405312, .bool true]) := nr_over hMr.out (by have := hE.out; omega)
                clear hE0 hMr
                go_wp2
                all_goals (go_ret2; exact ⟨by rw [hfin.out]; rfl, rfl⟩)
              · obtain ⟨R, hR⟩ : ∃ R : Int, Hid (R = (E : Int) * 4503599627370496 + M) := ⟨_, rfl⟩
                have hfin : Hid (nres (E * 4503599627370496 + rnm q j more) = .tuple #[.int .u64 R, .bool false]) := nr_mid hMr.out hR.out (by have := hE.out; omega)
                have hEl : e + (j : Int) ≤ 971 := by omega
                have hEg : -1075 ≤ e + (j : Int) := by have := hE.out; omega
                clear hE0 hMr
                go_wp2
                go_ret2
                rw [hfin.out]
                refine ⟨ret_tup ?_, rfl⟩
                have := hR.out
                have := hE.out
                first
                  | omega
                  | (simp only [IntKind.wrap_u64]; omega)
        · subst c
          have c1 : ¬ (l < l) := by omega
          have c2 : (l == l) = true := beq_self_eq_true l
          have c3 : q % 2 ^ j = 2 ^ (j - 1) := hl2.out.1 rfl
          have c3H : Hid (q % 2 ^ j = 2 ^ (j - 1)) := c3
          clear c3
          cases more with
          | true =>
            obtain ⟨M, hM⟩ : ∃ M : Int, Hid (M = m + 1) := ⟨_, rfl⟩
            have hup : IntKind.u64.wrap (m + 1) = M := by have := hM.out; simp only [IntKind.wrap_u64]; omega
            have hup2 : m + 1 = M := hM.out.symm
            have hMr : Hid (M = ((rnm q j true : Nat) : Int)) := by rw [hM.out, hm.out]; exact nr_up (.inr ⟨c3H.out, .inl rfl⟩)
            have hM53 : M ≤ 9007199254740992 := by have := hM.out; omega
            by_cases hm : M < 4503599627370496
            · have hm1 : (M == 9007199254740992) = false := beq_eq_false_iff_ne.2 (by omega)
              have hfin : Hid (nres (E * 4503599627370496 + rnm q j true) = .tuple #[.int .u64 M, .bool false]) := nr_small hE0.out hMr.out hm
              clear hM53 hE0 hMr
              go_wp2
              go_ret2
              exact ⟨by rw [hfin.out]; rfl, rfl⟩
            · by_cases h53 : M = 9007199254740992
              · subst h53
                by_cases hov : 971 < e + (j : Int) + 1
                · have hfin : Hid (nres (E * 4503599627370496 + rnm q j true) = .tuple #[.int .u64 9218868437227405312, .bool true]) := nr_over hMr.out (by have := hE.out; omega)
                  clear hE0 hMr
                  go_wp2
                  all_goals (go_ret2; exact ⟨by rw [hfin.out]; rfl, rfl⟩)
                · obtain ⟨R, hR⟩ : ∃ R : Int, Hid (R = (E : Int) * 4503599627370496 + 9007199254740992) := ⟨_, rfl⟩
                  have hfin : Hid (nres (E * 4503599627370496 + rnm q j true) = .tuple #[.int .u64 R, .bool false]) := nr_mid hMr.out hR.out (by have := hE.out; omega)
                  have hEl : e + (j : Int) + 1 ≤ 971 := by omega
                  have hEg : -1075 ≤ e + (j : Int) := by have := hE.out; omega
                  clear hE0 hMr
                  go_wp2
                  go_ret2
                  rw [hfin.out]
                  refine ⟨ret_tup ?_, rfl⟩
                  have := hR.out
                  have := hE.out
                  first
                    | omega
                    | (simp only [IntKind.wrap_u64]; omega)
              · have hm1 : (M == 9007199254740992) = false := beq_eq_false_iff_ne.2 h53
                by_cases hov : 971 < e + (j : Int)
                · have hfin : Hid (nres (E * 4503599627370496 + rnm q j true) = .tuple #[.int .u64 9218868437227405312, .bool true]) := nr_over hMr.out (by have := hE.out; omega)
                  clear hE0 hMr
                  go_wp2
                  all_goals (go_ret2; exact ⟨by rw [hfin.out]; rfl, rfl⟩)
                · obtain ⟨R, hR⟩ : ∃ R : Int, Hid (R = (E : Int) * 4503599627370496 + M) := ⟨_, rfl⟩
                  have hfin : Hid (nres (E * 4503599627370496 + rnm q j true) = .tuple #[.int .u64 R, .bool false]) := nr_mid hMr.out hR.out (by have := hE.out; omega)
                  have hEl : e + (j : Int) ≤ 971 := by omega
                  have hEg : -1075 ≤ e + (j : Int) := by have := hE.out; omega
                  clear hE0 hMr
                  go_wp2
                  go_ret2
                  rw [hfin.out]
                  refine ⟨ret_tup ?_, rfl⟩
                  have := hR.out
                  have := hE.out
                  first
                    | omega
                    | (simp only [IntKind.wrap_u64]; omega)
          | false =>
            by_cases c4 : m % 2 = 1
            · have c5 : (m % 2 == 1) = true := beq_iff_eq.2 c4
              obtain ⟨M, hM⟩ : ∃ M : Int, Hid (M = m + 1) := ⟨_, rfl⟩
              have hup : IntKind.u64.wrap (m + 1) = M := by have := hM.out; simp only [IntKind.wrap_u64]; omega
              have hup2 : m + 1 = M := hM.out.symm
              have hMr : Hid (M = ((rnm q j false : Nat) : Int)) := by rw [hM.out, hm.out]; exact nr_up (.inr ⟨c3H.out, .inr (hm2.out.1 c4)⟩)
              have hM53 : M ≤ 9007199254740992 := by have := hM.out; omega
              by_cases hm : M < 4503599627370496
              · have hm1 : (M == 9007199254740992) = false := beq_eq_false_iff_ne.2 (by omega)
                have hfin : Hid (nres (E * 4503599627370496 + rnm q j false) = .tuple #[.int .u64 M, .bool false]) := nr_small hE0.out hMr.out hm
                clear hM53 hE0 hMr
                go_wp2
                go_ret2
                exact ⟨by rw [hfin.out]; rfl, rfl⟩
              · by_cases h53 : M = 9007199254740992
                · subst h53
                  by_cases hov : 971 < e + (j : Int) + 1
                  · have hfin : Hid (nres (E * 4503599627370496 + rnm q j false) = .tuple #[.int .u64 9218868437227405312, .bool true]) := nr_over hMr.out (by have := hE.out; omega)
                    clear hE0 hMr
                    go_wp2
                    all_goals (go_ret2; exact ⟨by rw [hfin.out]; rfl, rfl⟩)
                  · obtain ⟨R, hR⟩ : ∃ R : Int, Hid (R = (E : Int) * 4503599627370496 + 9007199254740992) := ⟨_, rfl⟩
                    have hfin : Hid (nres (E * 4503599627370496 + rnm q j false) = .tuple #[.int .u64 R, .bool false]) := nr_mid hMr.out hR.out (by have := hE.out; omega)
                    have hEl : e + (j : Int) + 1 ≤ 971 := by omega
                    have hEg : -1075 ≤ e + (j : Int) := by have := hE.out; omega
                    clear hE0 hMr
                    go_wp2
                    go_ret2
                    rw [hfin.out]
                    refine ⟨ret_tup ?_, rfl⟩
                    have := hR.out
                    have := hE.out
                    first
                      | omega
                      | (simp only [IntKind.wrap_u64]; omega)
                · have hm1 : (M == 9007199254740992) = false := beq_eq_false_iff_ne.2 h53
                  by_cases hov : 971 < e + (j : Int)
                  · have hfin : Hid (nres (E * 4503599627370496 + rnm q j false) = .tuple #[.int .u64 9218868437227405312, .bool true]) := nr_over hMr.out (by have := hE.out; omega)
                    clear hE0 hMr
                    go_wp2
                    all_goals (go_ret2; exact ⟨by rw [hfin.out]; rfl, rfl⟩)
                  · obtain ⟨R, hR⟩ : ∃ R : Int, Hid (R = (E : Int) * 4503599627370496 + M) := ⟨_, rfl⟩
                    have hfin : Hid (nres (E * 4503599627370496 + rnm q j false) = .tuple #[.int .u64 R, .bool false]) := nr_mid hMr.out hR.out (by have := hE.out; omega)
                    have hEl : e + (j : Int) ≤ 971 := by omega
                    have hEg : -1075 ≤ e + (j : Int) := by have := hE.out; omega
                    clear hE0 hMr
                    go_wp2
                    go_ret2
                    rw [hfin.out]
                    refine ⟨ret_tup ?_, rfl⟩
                    have := hR.out
                    have := hE.out
                    first
                      | omega
                      | (simp only [IntKind.wrap_u64]; omega)
            · have c5 : (m % 2 == 1) = false := beq_eq_false_iff_ne.2 c4
              have hMr : Hid (m = ((rnm q j false : Nat) : Int)) := by rw [hm.out]; exact nr_down (fun h => by rcases h with h | h; exact c1 (hl1.out.2 h); rcases h.2 with h9 | h9; cases h9; exact c4 (hm2.out.2 h9))
              have hM53 : m ≤ 9007199254740992 := by omega
              have c6 : Hid (¬ m % 2 = 1) := c4
              clear c4
              generalize hmM : m = M at *
              clear hmM
              by_cases hm : M < 4503599627370496
              · have hm1 : (M == 9007199254740992) = false := beq_eq_false_iff_ne.2 (by omega)
                have hfin : Hid (nres (E * 4503599627370496 + rnm q j false) = .tuple #[.int .u64 M, .bool false]) := nr_small hE0.out hMr.out hm
                clear hM53 hE0 hMr
                go_wp2
                go_ret2
                exact ⟨by rw [hfin.out]; rfl, rfl⟩
              · by_cases h53 : M = 9007199254740992
                · exact absurd h53 (by omega)
                · have hm1 : (M == 9007199254740992) = false := beq_eq_false_iff_ne.2 h53
                  by_cases hov : 971 < e + (j : Int)
                  · have hfin : Hid (nres (E * 4503599627370496 + rnm q j false) = .tuple #[.int .u64 9218868437227405312, .bool true]) := nr_over hMr.out (by have := hE.out; omega)
                    clear hE0 hMr
                    go_wp2
                    all_goals (go_ret2; exact ⟨by rw [hfin.out]; rfl, rfl⟩)
                  · obtain ⟨R, hR⟩ : ∃ R : Int, Hid (R = (E : Int) * 4503599627370496 + M) := ⟨_, rfl⟩
                    have hfin : Hid (nres (E * 4503599627370496 + rnm q j false) = .tuple #[.int .u64 R, .bool false]) := nr_mid hMr.out hR.out (by have := hE.out; omega)
                    have hEl : e + (j : Int) ≤ 971 := by omega
                    have hEg : -1075 ≤ e + (j : Int) := by have := hE.out; omega
                    clear hE0 hMr
                    go_wp2
                    go_ret2
                    rw [hfin.out]
                    refine ⟨ret_tup ?_, rfl⟩
                    have := hR.out
                    have := hE.out
                    first
                      | omega
                      | (simp only [IntKind.wrap_u64]; omega)
        · have c2 : (l == H) = false := beq_eq_false_iff_ne.2 (by omega)
          obtain ⟨M, hM⟩ : ∃ M : Int, Hid (M = m + 1) := ⟨_, rfl⟩
          have hup : IntKind.u64.wrap (m + 1) = M := by have := hM.out; simp only [IntKind.wrap_u64]; omega
          have hup2 : m + 1 = M := hM.out.symm
          have hMr : Hid (M = ((rnm q j more : Nat) : Int)) := by rw [hM.out, hm.out]; exact nr_up (.inl (hl1.out.1 c))
          have hM53 : M ≤ 9007199254740992 := by have := hM.out; omega
          by_cases hm : M < 4503599627370496
          · have hm1 : (M == 9007199254740992) = false := beq_eq_false_iff_ne.2 (by omega)
            have hfin : Hid (nres (E * 4503599627370496 + rnm q j more) = .tuple #[.int .u64 M, .bool false]) := nr_small hE0.out hMr.out hm
            clear hM53 hE0 hMr
            go_wp2
            go_ret2
            exact ⟨by rw [hfin.out]; rfl, rfl⟩
          · by_cases h53 : M = 9007199254740992
            · subst h53
              by_cases hov : 971 < e + (j : Int) + 1
              · have hfin : Hid (nres (E * 4503599627370496 + rnm q j more) = .tuple #[.int .u64 9218868437227405312, .bool true]) := nr_over hMr.out (by have := hE.out; omega)
                clear hE0 hMr
                go_wp2
                all_goals (go_ret2; exact ⟨by rw [hfin.out]; rfl, rfl⟩)
              · obtain ⟨R, hR⟩ : ∃ R : Int, Hid (R = (E : Int) * 4503599627370496 + 9007199254740992) := ⟨_, rfl⟩
                have hfin : Hid (nres (E * 4503599627370496 + rnm q j more) = .tuple #[.int .u64 R, .bool false]) := nr_mid hMr.out hR.out (by have := hE.out; omega)
                have hEl : e + (j : Int) + 1 ≤ 971 := by omega
                have hEg : -1075 ≤ e + (j : Int) := by have := hE.out; omega
                clear hE0 hMr
                go_wp2
                go_ret2
                rw [hfin.out]
                refine ⟨ret_tup ?_, rfl⟩
                have := hR.out
                have := hE.out
                first
                  | omega
                  | (simp only [IntKind.wrap_u64]; omega)
            · have hm1 : (M == 9007199254740992) = false := beq_eq_false_iff_ne.2 h53
              by_cases hov : 971 < e + (j : Int)
              · have hfin : Hid (nres (E * 4503599627370496 + rnm q j more) = .tuple #[.int .u64 9218868437227405312, .bool true]) := nr_over hMr.out (by have := hE.out; omega)
                clear hE0 hMr
                go_wp2
                all_goals (go_ret2; exact ⟨by rw [hfin.out]; rfl, rfl⟩)
              · obtain ⟨R, hR⟩ : ∃ R : Int, Hid (R = (E : Int) * 4503599627370496 + M) := ⟨_, rfl⟩
                have hfin : Hid (nres (E * 4503599627370496 + rnm q j more) = .tuple #[.int .u64 R, .bool false]) := nr_mid hMr.out hR.out (by have := hE.out; omega)
                have hEl : e + (j : Int) ≤ 971 := by omega
                have hEg : -1075 ≤ e + (j : Int) := by have := hE.out; omega
                clear hE0 hMr
                go_wp2
                go_ret2
                rw [hfin.out]
                refine ⟨ret_tup ?_, rfl⟩
                have := hR.out
                have := hE.out
                first
                  | omega
                  | (simp only [IntKind.wrap_u64]; omega))
end Go.Proofs.Ytmfnjmgdindlaaa
