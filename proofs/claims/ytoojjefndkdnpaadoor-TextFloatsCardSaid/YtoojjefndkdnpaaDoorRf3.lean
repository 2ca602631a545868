/-
  The document's Float and ParseFloat; timbrenat.Float.
-/
import Derived.Test.YtoojjefndkdnpaaDoorPfl
namespace Go.Proofs.YtoojjefndkdnpaaDoor
open Flo Go.RowKit
theorem ord_self (b : Nat) (hb : b < 18446744073709551616) (h : ¬ 9218868437227405312 < b % 9223372036854775808) : FloatKind.f64.format.order b b = some Ordering.eq := by
  have h1 := order_of b b hb hb (by omega) (by omega)
  have h2 : compare (sv b) (sv b) = Ordering.eq := by simp
  rw [h2] at h1
  exact h1
theorem ord_nan (b : Nat) (h : 9218868437227405312 < b % 9223372036854775808) : FloatKind.f64.format.order b b = none := order_nan_left b b h
set_option maxRecDepth 100000 in
set_option maxHeartbeats 400000 in
theorem natFloat_c (b : Nat) (w : World) (hb : b < 18446744073709551616) :
    Calls Tryd.prog 6 #[.int .u64 b] w fun e w' => e = .returned (.float .f64 (bt b)) ∧ w = w' := by
  have h1 := run_frombits
  by_cases hn : 9218868437227405312 < b % 9223372036854775808
  · have ho := ord_nan b hn
    have hbt : Hid (bt b = 9221120237041090560) := by show _ = _; unfold bt; rw [if_pos hn]
    clear hn hb
    go_enter Tryd.func6, Tryd.ntmps6
    go_wp2
    go_ret
    exact ⟨by rw [hbt.out]; rfl, rfl⟩
  · have ho := ord_self b hb hn
    have hbt : Hid (bt b = b) := by show _ = _; unfold bt; rw [if_neg hn]
    clear hn hb
    go_enter Tryd.func6, Tryd.ntmps6
    go_wp2
    go_ret
    exact ⟨by rw [hbt.out]; rfl, rfl⟩
set_option maxRecDepth 100000 in
set_option maxHeartbeats 400000 in
theorem r3Float_c (n : Nat) (w : World) (h : Hid (n < 18446744073709551616)) :
    Calls Tryd.prog 10 #[.float .f64 n] w fun e w' => e = .returned (.string (B (hxl (bt n)))) ∧ Below w.heap.size w w' := by
  obtain ⟨i0, hi0, hz0, hz1, hz2⟩ := info_parts infoU8
  have hbt : Hid (Calls Tryd.prog 22 #[.float .f64 n] w fun e w' => e = .returned (.int .u64 (bt n : Nat)) ∧ w = w') := rbits_c n w h.out
  have hbl : Hid (bt n < 18446744073709551616) := bt_lt h.out
  generalize bt n = b at hbt hbl
  have hmade : Hid (Row 5 .u8 (w.alloc (.cells #[] 5)) w.heap.size (.slice (some ⟨w.heap.size, 0, none⟩) 0 0) 0 (hxp b)) := World.ownsRow_made w #[] 0 (Nat.le_refl _) (by decide) rfl
  go_enter Tryd.func10, Tryd.ntmps10
  go_wp2_with fail
  refine Calls.mono hbt.out ?_
  rintro e w' ⟨rfl, rfl⟩
  go_wp2_with fail
  clear hbt
  go_loopw [4, 5] (fun so si wr => ∃ i : Nat, i ≤ 16 ∧ si = .int .i64 (60 - 4 * (i : Int)) ∧ Hid (Row 5 .u8 wr w.heap.size so i (hxp b)) ∧ Hid (Below w.heap.size w wr)) (fun _ si _ => (intOf si + 4).toNat)
  case atStart => exact ⟨0, by omega, rfl, hmade, (Below.refl _ _).alloc (Nat.le_refl _) _⟩
  case round =>
    obtain ⟨i, hi, rfl, hrow, hbl2⟩ := hrel
    have hsz := hbl2.out.size
    by_cases h16 : i = 16
    · subst h16
      obtain ⟨g, cap, hge, hcv⟩ := bytes_back wr _ _ _ hrow.out
      subst hge
      clear hrow
      go_wp2
      go_ret
      exact ⟨rfl, hbl2.out⟩
    · obtain ⟨s, hs⟩ : ∃ s : Nat, s = 60 - 4 * i := ⟨_, rfl⟩
      have hsI : (60 : Int) - 4 * (i : Int) = (s : Int) := by omega
      have hsl : s ≤ 60 := by omega
      have hand := and15 b s hbl.out
      have hd : b / 2 ^ s % 16 < 16 := Nat.mod_lt _ (by decide)
      have hcd := hex_at (b / 2 ^ s % 16) hd
      have hval : Hid (hxp b i = hexd (b / 2 ^ s % 16)) := by
        show _ = _
        unfold hxp
        rw [show (16 : Nat) = 2 ^ 4 from rfl, ← Nat.pow_mul, show 4 * (15 - i) = s by omega]
      have hyl := hexd_lt hd
      have hnext : Hid ((s : Int) - 4 = 60 - 4 * ((i + 1 : Nat) : Int)) := (by omega : (s : Int) - 4 = 60 - 4 * ((i + 1 : Nat) : Int))
      generalize b / 2 ^ s % 16 = d at hand hd hcd hval hyl
      generalize hexd d = y at hcd hval hyl
      have hi16 : i < 16 := by omega
      rw [hsI]
      clear hsI hs h16
      go_wp2_with (at_builtin; refine wpList_append_own _ rfl _ _ 44 rfl w.heap.size 5 i0 (.int .u8 0) 1 1 Tryd.underlying44 hi0 hz0 hz1 hz2 rfl (by decide) _ _ _ rfl (hrow.out.allocs _) ⟨wr.heap.size, 0, none⟩ 1 1 [.int .u8 (y : Int)] rfl rfl ?c1 ?c2 ?c3 ?c4 ?c5 ?_)
      case c1 =>
        intro j u hj
        match j, hj with
        | 0, hj => simp at hj; subst hj; simp [Addr.add]
      case c2 => intro u hu; simp at hu; subst hu; rfl
      case c3 => unfold maxLen; omega
      case c4 => omega
      case c5 => simp; omega
      · intro v' w1 hown' hgrow hnil
        have hr3 : Hid (Row 5 .u8 w1 w.heap.size v' (i + 1) (hxp b)) := by
          show World.ownsRow _ _ _ _ _ _ _
          rw [Cl_succ, hval.out]; exact hown'
        have hin : Hid (Below w.heap.size w w1) := (hbl2.out.alloc (by omega) _).grown hgrow (by simp; omega) (fun k' hk' => (hrow.out.lt k' hk').1)
        clear hown' hgrow hnil hrow hbl2 hand hcd hval
        go_wp2
        refine ⟨⟨i + 1, by omega, by rw [hnext.out], hr3, hin⟩, ?_⟩
        have := hnext.out
        simp [intOf]
        omega
/-- the document's answer -/
def r3r (l : List UInt8) : Value := match pf l with | some b => .tuple #[.float .f64 b, .int .i64 0] | none => .tuple #[.float .f64 0, .int .i64 6]
theorem r3r_none {l : List UInt8} (h : pf l = none) : r3r l = .tuple #[.float .f64 0, .int .i64 6] := by unfold r3r; rw [h]
theorem r3r_some {l : List UInt8} {b : Nat} (h : pf l = some b) : r3r l = .tuple #[.float .f64 b, .int .i64 0] := by unfold r3r; rw [h]
theorem hex_eq : ∀ (d : Nat), d < 16 → ∀ c : Nat, c < 256 → (hexd d = c ↔ Hx.hexv c = some d) := by
  intro d hd c hc
  unfold hexd Hx.hexv
  constructor
  · intro h
    subst h
    by_cases h1 : d < 10
    · rw [if_pos h1, if_pos (by omega)]; congr 1; omega
    · rw [if_neg h1, if_neg (by omega), if_pos (by omega)]; congr 1; omega
  · intro h
    by_cases h1 : 48 ≤ c ∧ c ≤ 57
    · rw [if_pos h1] at h
      cases h
      rw [if_pos (by omega)]; omega
    · rw [if_neg h1] at h
      by_cases h2 : 97 ≤ c ∧ c ≤ 102
      · rw [if_pos h2] at h
        cases h
        rw [if_neg (by omega)]; omega
      · rw [if_neg h2] at h; cases h
set_option maxRecDepth 100000 in
set_option maxHeartbeats 400000 in
theorem r3Parse_len (l : List UInt8) (w : World) (hl : l.length ≠ 16) :
    Calls Tryd.prog 8 #[.string (B l)] w fun e w' => e = .returned (r3r l) ∧ ∃ q, w' = w.drewN q := by
  have hsz : (B l).size = l.length := B_size l
  have hne : ((l.length : Int) == 16) = false := beq_eq_false_iff_ne.2 (by omega)
  have hne2 : ((l.length : Int) != 16) = true := by simp [bne, hne]
  go_enter Tryd.func8, Tryd.ntmps8
  go_wp2
  go_ret2
  exact ⟨by rw [r3r_none (pf_len hl)]; rfl, 0, rfl⟩
set_option maxRecDepth 100000 in
set_option maxHeartbeats 1000000 in
theorem r3Parse_16 (l : List UInt8) (w : World) (hl : l.length = 16) :
    Calls Tryd.prog 8 #[.string (B l)] w fun e w' => e = .returned (r3r l) ∧ ∃ q, w' = w.drewN q := by
  obtain ⟨s, hs⟩ : ∃ s, s = B l := ⟨_, rfl⟩
  have hsz : s.size = 16 := by rw [hs, B_size]; exact hl
  have hdata : Hid (s.data.toList = l) := by show _ = _; rw [hs, B_data]
  rw [← hs]
  clear hs
  go_enter Tryd.func8, Tryd.ntmps8
  go_wp2_with fail
  go_loopw [4, 5, 6] (fun sb si _ wr => ∃ i b q : Nat, i ≤ 16 ∧ sb = .int .u64 b ∧ si = .int .i64 i ∧ wr = w.drewN q ∧ Hid (Hx.hxs (l.take i) = some b)) (fun _ si _ _ => 16 - (intOf si).toNat)
  case atStart => exact ⟨0, 0, 0, by omega, rfl, rfl, rfl, by show _ = _; rw [List.take_zero]; rfl⟩
  case round =>
    obtain ⟨i, b, q, hi, rfl, rfl, rfl, hx⟩ := hrel
    have hbl : Hid (b < 16 ^ i) := by
      have h1 := Hx.hxs_lt _ _ hx.out
      rw [List.length_take] at h1
      exact Nat.lt_of_lt_of_le h1 (Nat.pow_le_pow_right (by decide) (Nat.min_le_left _ _))
    by_cases hlt : i < 16
    · have hlt' : (i : Int) < 16 := by omega
      have hiz : i < s.size := by omega
      have hb := ba_get s i hiz
      rw [hdata.out] at hb
      have hbH : Hid (l[i]? = some s[i]) := hb
      have hcl : Hid (s[i].toNat < 256) := UInt8.toNat_lt s[i]
      have hbl15 : Hid (b < 1152921504606846976) := Nat.lt_of_lt_of_le hbl.out (Nat.pow_le_pow_right (by decide : 0 < 16) (by omega : i ≤ 15))
      clear hb hlt hi
      go_wp2_with fail
      generalize hwq : w.drewN q = W
      have hWH : Hid (w.drewN q = W) := hwq
      clear hwq
      go_loopw [6] (fun sd wr => ∃ d q2 : Nat, d ≤ 16 ∧ sd = .int .i64 d ∧ wr = W.drewN q2 ∧ Hid (∀ j, j < d → hexd j ≠ s[i].toNat)) (fun sd _ => 16 - (intOf sd).toNat)
      case atStart => exact ⟨0, 0, by omega, rfl, rfl, fun j hj => absurd hj (by omega)⟩
      case round =>
        obtain ⟨d, q2, hd, rfl, rfl, hall⟩ := hrel
        by_cases hd16 : d < 16
        · have hd16' : (d : Int) < 16 := by omega
          have hcd := hex_at d hd16
          by_cases hy : hexd d = s[i].toNat
          · have hv : Hx.hexv s[i].toNat = some d := (hex_eq d hd16 _ hcl.out).1 hy
            have hnew : Hid (Hx.hxs (l.take (i + 1)) = some (16 * b + d)) := Hx.hxs_step hbH.out hx.out hv
            have hor : bits .or .u64 ((b : Int) * 16) (d : Int) = ((16 * b + d : Nat) : Int) := by
              have := hbl15.out
              rw [show (b : Int) * 16 = ((16 * b : Nat) : Int) by omega, bits_or_u64_nat _ _ (by omega) (by omega)]
              exact congrArg _ (Nat.two_pow_add_eq_or_of_lt (i := 4) hd16 b).symm
            have hbl16 : b < 1152921504606846976 := hbl15.out
            rw [hy] at hcd
            have hne : ((s[i].toNat : Int) != (s[i].toNat : Int)) = false := by simp
            have hd16n : ((d : Int) == 16) = false := beq_eq_false_iff_ne.2 (by omega)
            clear hv hy hall hcl
            go_wp2_with fail
            go_quiet (fail)
            go_wp2
            refine ⟨⟨i + 1, 16 * b + d, _, by omega, by go_num, by go_num, by rw [← hWH.out, World.drewN_drewN], hnew⟩, by simp [intOf]; omega⟩
          · have hne : ((hexd d : Int) != (s[i].toNat : Int)) = true := by simp [bne]; omega
            have hnew : Hid (∀ j, j < d + 1 → hexd j ≠ s[i].toNat) := fun j hj => by
              by_cases e : j = d
              · rw [e]; exact hy
              · exact hall.out j (by omega)
            generalize hexd d = y at hcd hne
            clear hy hall hcl
            go_wp2_with fail
            go_quiet (fail)
            go_wp2
            refine ⟨⟨d + 1, _, by omega, by go_num, rfl, hnew⟩, by simp [intOf]; omega⟩
        · have hd16' : decide ((d : Int) < 16) = false := decide_eq_false (by omega)
          have hde : d = 16 := by omega
          subst hde
          have hno : Hid (Hx.hxs l = none) := by
            refine Hx.hxs_fail hbH.out ?_
            cases hv : Hx.hexv s[i].toNat with
            | none => rfl
            | some e => exact absurd ((hex_eq e (Hx.hexv_lt hv) _ hcl.out).2 hv) (hall.out e (Hx.hexv_lt hv))
          clear hall
          go_wp2_with fail
          go_quiet (fail)
          go_wp2
          go_ret2
          exact ⟨by rw [r3r_none (pf_none hno.out)]; rfl, _, by rw [← hWH.out, World.drewN_drewN]⟩
    · have hlt' : decide ((i : Int) < 16) = false := decide_eq_false (by omega)
      have hi16 : i = 16 := by omega
      subst hi16
      have hxl : Hid (Hx.hxs l = some b) := by
        have h := hx.out
        rw [List.take_of_length_le (by omega)] at h
        exact h
      have hb64 : Hid (b < 18446744073709551616) := Nat.lt_of_lt_of_le hbl.out (by decide)
      have hof : Hid (Calls Tryd.prog 6 #[.int .u64 (b : Int)] (w.drewN q) fun e w' => e = .returned (.float .f64 (bt b)) ∧ (w.drewN q) = w') := natFloat_c b _ hb64.out
      have hbi : Hid (Calls Tryd.prog 22 #[.float .f64 (bt b)] (w.drewN q) fun e w' => e = .returned (.int .u64 (bt (bt b) : Nat)) ∧ (w.drewN q) = w') := rbits_c (bt b) _ (bt_lt hb64.out)
      have hbtbt : bt (bt b) = bt b := by unfold bt; split <;> simp_all
      rw [hbtbt] at hbi
      clear hbtbt
      by_cases hbb : bt b = b
      · rw [hbb] at hbi hof
        have hbbH : Hid (bt b = b) := hbb
        clear hbb hbl
        go_wp2_with fail
        refine Calls.mono hof.out ?_
        rintro e w' ⟨rfl, rfl⟩
        go_wp2_with fail
        refine Calls.mono hbi.out ?_
        rintro e w' ⟨rfl, rfl⟩
        go_wp2
        go_ret2
        exact ⟨by rw [r3r_some (pf_some hl hxl.out hbbH.out)]; rfl, q, rfl⟩
      · have hne : ((bt b : Int) == (b : Int)) = false := beq_eq_false_iff_ne.2 (by omega)
        have hne2 : ((bt b : Int) != (b : Int)) = true := by simp [bne, hne]
        have hpf : Hid (pf l = none) := pf_bad hxl.out hbb
        clear hbb hbl hne
        generalize bt b = c at hbi hof hne2
        go_wp2_with fail
        refine Calls.mono hof.out ?_
        rintro e w' ⟨rfl, rfl⟩
        go_wp2_with fail
        refine Calls.mono hbi.out ?_
        rintro e w' ⟨rfl, rfl⟩
        go_wp2
        go_ret2
        exact ⟨by rw [r3r_none hpf.out]; rfl, q, rfl⟩
theorem r3Parse_c (l : List UInt8) (w : World) :
    Calls Tryd.prog 8 #[.string (B l)] w fun e w' => e = .returned (r3r l) ∧ Below w.heap.size w w' := by
  by_cases h : l.length = 16
  · refine (r3Parse_16 l w h).mono ?_
    rintro e w' ⟨rfl, q, rfl⟩
    exact ⟨rfl, below_drewN (Below.refl _ _) q⟩
  · refine (r3Parse_len l w h).mono ?_
    rintro e w' ⟨rfl, q, rfl⟩
    exact ⟨rfl, below_drewN (Below.refl _ _) q⟩
end Go.Proofs.YtoojjefndkdnpaaDoor
