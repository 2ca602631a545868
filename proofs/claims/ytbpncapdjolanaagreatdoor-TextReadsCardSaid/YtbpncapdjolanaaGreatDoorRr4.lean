/-
  The document's ParsePlain, walked.
-/
import Derived.Test.YtbpncapdjolanaaGreatDoorRr3
import Derived.Test.YtbpncapdjolanaaGreatDoorRf3
namespace Go.Proofs.YtbpncapdjolanaaGreatDoor
open Flo Go.RowKit
def tup3 (b : Nat) (n : Int) : Value := .tuple #[.float .f64 b, .int .i64 n]
def R3 (l : List UInt8) (v : Value) : Prop := (pr3 l = none ∧ v = tup3 0 6) ∨ ∃ mi ds p s, pr3 l = some (mi, ds, p) ∧ Rd.Sp (Dg.dv ds) p s ∧ ((Rd.inf ≤ s ∧ v = tup3 0 5) ∨ (s < Rd.inf ∧ v = tup3 (s + sg mi) 0))
theorem u8_eqb (c x : UInt8) (k : Int) (hk : k = (x.toNat : Int)) : ((c.toNat : Int) == k) = decide (c = x) := by
  subst hk
  by_cases h : c = x
  · subst h; simp
  · have h2 : c.toNat ≠ x.toNat := fun e => h (UInt8.toNat_inj.1 e)
    rw [decide_eq_false h]
    exact beq_eq_false_iff_ne.2 (by omega)
theorem ex_list (s : ByteArray) (a b : Nat) : (s.extract a b).data.toList = (s.data.toList.drop a).take (b - a) := by
  have h : s = B s.data.toList := B_of s
  rw [h, B_extract, B_data, B_data]
theorem ap_list (s t : ByteArray) : (s ++ t).data.toList = s.data.toList ++ t.data.toList := by
  have h1 : s = B s.data.toList := B_of s
  have h2 : t = B t.data.toList := B_of t
  rw [h1, h2, B_append, B_data, B_data, B_data]
theorem at_list {s : ByteArray} {l : List UInt8} (hl : s.data.toList = l) (i : Nat) (h : i < s.size) : l[i]? = some s[i] := by rw [← hl]; exact ba_get s i h
theorem q_no {l : List UInt8} {i0 n1 : Nat} {mi : Bool} (hl : l.length ≤ 400) (hcut : cut1 45 l = (l.drop i0, mi)) (h1 : Dg.rl (l.drop i0) = n1) (h0 : n1 = 0) : pr3 l = none := pr3_no hl hcut (h1.trans h0)
theorem q_plain {l : List UInt8} {i0 n1 I1 : Nat} {mi : Bool} (hl : l.length ≤ 400) (hcut : cut1 45 l = (l.drop i0, mi)) (h1 : Dg.rl (l.drop i0) = n1) (h0 : n1 ≠ 0) (hI : I1 = i0 + n1) (hd : cut1 46 (l.drop I1) = (l.drop I1, false)) : pr3 l = P2 mi ((l.drop i0).take n1) 0 (l.drop I1) := by
  have e : (l.drop i0).drop (Dg.rl (l.drop i0)) = l.drop I1 := by rw [List.drop_drop, h1, hI]
  have h := pr3_plain hl hcut (by rw [h1]; exact h0) (by rw [e]; exact hd)
  rw [e, h1] at h
  exact h
theorem q_dot0 {l : List UInt8} {i0 n1 I1 : Nat} {mi : Bool} (hl : l.length ≤ 400) (hcut : cut1 45 l = (l.drop i0, mi)) (h1 : Dg.rl (l.drop i0) = n1) (h0 : n1 ≠ 0) (hI : I1 = i0 + n1) (hd : cut1 46 (l.drop I1) = (l.drop (I1 + 1), true)) (h2 : Dg.rl (l.drop (I1 + 1)) = 0) : pr3 l = none := by
  have e : (l.drop i0).drop (Dg.rl (l.drop i0)) = l.drop I1 := by rw [List.drop_drop, h1, hI]
  exact pr3_dot0 hl hcut (by rw [h1]; exact h0) (by rw [e]; exact hd) h2
theorem q_dot {l : List UInt8} {i0 n1 I1 n2 I2 : Nat} {mi : Bool} (hl : l.length ≤ 400) (hcut : cut1 45 l = (l.drop i0, mi)) (h1 : Dg.rl (l.drop i0) = n1) (h0 : n1 ≠ 0) (hI : I1 = i0 + n1) (hd : cut1 46 (l.drop I1) = (l.drop (I1 + 1), true)) (h2 : Dg.rl (l.drop (I1 + 1)) = n2) (h3 : n2 ≠ 0) (hI2 : I2 = I1 + 1 + n2) :
    pr3 l = P2 mi ((l.drop i0).take n1 ++ (l.drop (I1 + 1)).take n2) n2 (l.drop I2) := by
  have e : (l.drop i0).drop (Dg.rl (l.drop i0)) = l.drop I1 := by rw [List.drop_drop, h1, hI]
  have e2 : (l.drop (I1 + 1)).drop (Dg.rl (l.drop (I1 + 1))) = l.drop I2 := by rw [List.drop_drop, h2, hI2]
  have h := pr3_dot hl hcut (by rw [h1]; exact h0) (by rw [e]; exact hd) (by rw [h2]; exact h3)
  rw [e2, h1, h2] at h
  exact h
theorem q_end {l acc : List UInt8} {I2 k : Nat} {mi : Bool} (h : l.length ≤ I2) : P2 mi acc k (l.drop I2) = some (mi, acc, -(k : Int)) := by
  rw [List.drop_of_length_le h]; exact P2_end _ _ _
theorem q_note {l acc : List UInt8} {I2 k : Nat} {mi : Bool} {c : UInt8} (h : l[I2]? = some c) (hc : c ≠ 101) : P2 mi acc k (l.drop I2) = none := by
  refine P2_no _ _ _ ?_ ?_
  · rw [cut1_at h, if_neg hc]
  · rw [drop1 h]; simp
theorem q_e0 {l acc : List UInt8} {I2 I4 k : Nat} {mi m : Bool} (h : l[I2]? = some 101) (hc : cut1 45 (l.drop (I2 + 1)) = (l.drop I4, m)) (h3 : Dg.rl (l.drop I4) = 0) : P2 mi acc k (l.drop I2) = none := by
  rw [P2_e mi acc k (u := l.drop (I2 + 1)) (by rw [cut1_at h, if_pos rfl]) hc, if_pos h3]
theorem q_eb {l acc : List UInt8} {I2 I4 n3 k : Nat} {mi m : Bool} (h : l[I2]? = some 101) (hc : cut1 45 (l.drop (I2 + 1)) = (l.drop I4, m)) (h3 : Dg.rl (l.drop I4) = n3) (h30 : n3 ≠ 0) (h5 : I4 + n3 < l.length) : P2 mi acc k (l.drop I2) = none := by
  rw [P2_e mi acc k (u := l.drop (I2 + 1)) (by rw [cut1_at h, if_pos rfl]) hc, if_neg (by rw [h3]; exact h30), if_pos]
  rw [List.drop_drop, h3]
  intro h6
  have := List.drop_eq_nil_iff.1 h6
  omega
theorem q_eok {l acc : List UInt8} {I2 I4 n3 k : Nat} {mi m : Bool} (h : l[I2]? = some 101) (hc : cut1 45 (l.drop (I2 + 1)) = (l.drop I4, m)) (h3 : Dg.rl (l.drop I4) = n3) (h30 : n3 ≠ 0) (h5 : l.length ≤ I4 + n3) : P2 mi acc k (l.drop I2) = some (mi, acc, (if m then -(exg ((l.drop I4).take n3) : Int) else (exg ((l.drop I4).take n3) : Int)) - (k : Int)) := by
  rw [P2_e mi acc k (u := l.drop (I2 + 1)) (by rw [cut1_at h, if_pos rfl]) hc, if_neg (by rw [h3]; exact h30), if_neg, h3]
  rw [List.drop_drop, h3]
  intro h6
  exact h6 (List.drop_of_length_le h5)
theorem run_len {s : ByteArray} {l : List UInt8} {a n : Nat} (hl : s.data.toList = l) (h : Dg.rl (l.drop a) = n) (ha : a ≤ s.size) : a + n ≤ s.size := by
  have h1 := Dg.rl_le (l.drop a)
  rw [List.length_drop, h] at h1
  have h2 : s.data.toList.length = s.size := rfl
  rw [hl] at h2
  omega
theorem exg_le (ds : List UInt8) : exg ds ≤ 100000 := by rw [exg_min]; omega
theorem or_sgn (b : Nat) (h : b < Rd.inf) : bits .or .u64 9223372036854775808 (b : Int) = ((b + 9223372036854775808 : Nat) : Int) := by
  unfold Rd.inf at h
  have h1 := bits_or_u64_nat 9223372036854775808 b (by decide) (by omega)
  rw [show (9223372036854775808 : Int) = ((9223372036854775808 : Nat) : Int) from rfl, h1]
  congr 1
  have h2 := Nat.two_pow_add_eq_or_of_lt (i := 63) (b := b) (show b < 2 ^ 63 by omega) 1
  rw [Nat.mul_one] at h2
  rw [Nat.add_comm]
  exact h2.symm
theorem or_non (b : Nat) (h : b < Rd.inf) : bits .or .u64 0 (b : Int) = (b : Int) := by
  unfold Rd.inf at h
  have h1 := bits_or_u64_nat 0 b (by decide) (by omega)
  rw [show (0 : Int) = ((0 : Nat) : Int) from rfl, h1, Nat.zero_or]
theorem bt_fin3 (b : Nat) (mi : Bool) (h : b < Rd.inf) : bt (b + sg mi) = b + sg mi := by
  unfold Rd.inf at h
  unfold bt sg
  cases mi
  · rw [if_neg]; simp; omega
  · rw [if_neg]; simp; omega
theorem rread_x (ds : ByteArray) (D : Nat) (acc : List UInt8) (x x' : Int) (w : World) (hx : x' = x) (hacc : ds.data.toList = acc) (hs : acc.length ≤ 400) (hDv : Dg.dv acc = D) (hd : ∀ b ∈ acc, Dg.isD b = true) (hx1 : -1000000 ≤ x) (hx2 : x ≤ 1000000) :
    Calls Tryz.prog 26 #[.string ds, .int .i64 x'] w fun e w' => ∃ v, e = .returned v ∧ rdr D x v ∧ Below w.heap.size w w' := by
  subst hx
  subst hacc
  exact rread_c ds D x' w hs hDv hd hx1 hx2
theorem rnum_x (ds : ByteArray) (acc : List UInt8) (w : World) (hacc : ds.data.toList = acc) (hs : acc.length ≤ 400) (hd : ∀ b ∈ acc, Dg.isD b = true) :
    Calls Tryz.prog 25 #[.string ds] w fun e w' => e = .returned (.int .i64 (exg acc : Nat)) ∧ w = w' := by
  subst hacc
  exact rnumber_c ds w (Nat.le_trans hs (by decide)) hd
theorem take_dig {l : List UInt8} {a n : Nat} (h : Dg.rl (l.drop a) = n) : ∀ b ∈ (l.drop a).take n, Dg.isD b = true := by rw [← h]; exact Dg.rl_all _
theorem take_len {l : List UInt8} (a n : Nat) : ((l.drop a).take n).length ≤ l.length - a := by rw [List.length_take, List.length_drop]; omega
theorem ex_take {s : ByteArray} {l : List UInt8} {a b n : Nat} (hl : s.data.toList = l) (h : b = a + n) : (s.extract a b).data.toList = (l.drop a).take n := by
  rw [ex_list, hl, h, Nat.add_sub_cancel_left]
set_option maxRecDepth 100000 in
set_option maxHeartbeats 8000000 in
theorem r3_m (s : ByteArray) (l : List UInt8) (w : World) (hl : Hid (s.data.toList = l)) (h1 : (s.toList == [110, 97, 110]) = false) (h2 : (s.toList == [105, 110, 102]) = false) (h3 : (s.toList == [45, 105, 110, 102]) = false) (hsz : s.size ≤ 400)
    (h0 : 0 < s.size) (hc0 : ((s[0].toNat : Int) == 45) = true) (hcut : Hid (cut1 45 l = (l.drop 1, true))) :
    Calls Tryz.prog 10 #[.string s] w fun e w' => ∃ v, e = .returned v ∧ R3 l v ∧ Below w.heap.size w w' := by
  have hszI : ¬ ((400 : Int) < (s.size : Int)) := by omega
  have h0I : (0 : Int) < (s.size : Int) := by omega
  have hlen : Hid (l.length = s.size) := by have := hl.out; subst this; exact rfl
  have hl4 : Hid (l.length ≤ 400) := by have := hlen.out; show _ ≤ _; omega
  go_enter Tryz.func10, Tryz.ntmps10
  go_wp2_with fail
  refine (rrun_c s 1 w (by omega) (by omega)).mono ?_
  rintro e w' ⟨rfl, rfl⟩
  obtain ⟨n1, hn1⟩ : ∃ n, Hid (Dg.rl (l.drop 1) = n) := ⟨_, rfl⟩
  rw [hl.out, hn1.out]
  have hb1 := run_len hl.out hn1.out (by omega)
  by_cases hz1 : n1 = 0
  · subst hz1
    have hres : Hid (pr3 l = none) := q_no hl4.out hcut.out hn1.out rfl
    go_wp2
    go_ret2
    exact ⟨_, rfl, .inl ⟨hres.out, rfl⟩, Below.refl _ _⟩
  · have hzI1 : ((n1 : Int) == 0) = false := beq_eq_false_iff_ne.2 (by omega)
    obtain ⟨I1, hI1⟩ : ∃ i : Nat, Hid (i = 1 + n1) := ⟨_, rfl⟩
    have hI10 : (1 : Int) + (n1 : Int) = (I1 : Int) := by have := hI1.out; omega
    have hI1l : I1 ≤ s.size := by have := hI1.out; omega
    have hI1g : (1 : Int) ≤ (I1 : Int) := by have := hI1.out; omega
    by_cases hinI1 : I1 < s.size
    · have hinII1 : (I1 : Int) < (s.size : Int) := by omega
      have hatI1 := at_list hl.out I1 (by omega)
      have hatHI1 : Hid (l[I1]? = some s[I1]) := hatI1
      clear hatI1
      by_cases hqI1 : s[I1] = 46
      · have hqII1 : ((s[I1].toNat : Int) == 46) = true := by rw [u8_eqb _ 46 46 rfl]; exact decide_eq_true hqI1
        have hqHI1 : Hid (s[I1] = 46) := hqI1
        clear hqI1
        have hcutd : Hid (cut1 46 (l.drop I1) = (l.drop (I1 + 1), true)) := by show _ = _; rw [cut1_at hatHI1.out, if_pos hqHI1.out]
        obtain ⟨J, hJ⟩ : ∃ i : Nat, Hid (i = I1 + 1) := ⟨_, rfl⟩
        have hJ0 : (I1 : Int) + 1 = (J : Int) := by have := hJ.out; omega
        have hJl : J ≤ s.size := by have := hJ.out; omega
        have hJg : (I1 : Int) ≤ (J : Int) := by have := hJ.out; omega
        go_wp2_with fail
        refine (rrun_c s J w (by omega) (by omega)).mono ?_
        rintro e w' ⟨rfl, rfl⟩
        obtain ⟨n2, hn2⟩ : ∃ n, Hid (Dg.rl (l.drop J) = n) := ⟨_, rfl⟩
        rw [hl.out, hn2.out]
        have hb2 := run_len hl.out hn2.out (by omega)
        by_cases hz2 : n2 = 0
        · subst hz2
          have hres : Hid (pr3 l = none) := q_dot0 hl4.out hcut.out hn1.out hz1 hI1.out hcutd.out (by rw [← hJ.out]; exact hn2.out)
          go_wp2
          go_ret2
          exact ⟨_, rfl, .inl ⟨hres.out, rfl⟩, Below.refl _ _⟩
        · have hzI2 : ((n2 : Int) == 0) = false := beq_eq_false_iff_ne.2 (by omega)
          have hn2' : Hid (Dg.rl (l.drop (I1 + 1)) = n2) := by rw [← hJ.out]; exact hn2.out
          obtain ⟨I2, hI2⟩ : ∃ i : Nat, Hid (i = I1 + 1 + n2) := ⟨_, rfl⟩
          have hI20 : (J : Int) + (n2 : Int) = (I2 : Int) := by have := hI2.out; have := hJ.out; omega
          have hI21 : (I1 : Int) + 1 + (n2 : Int) = (I2 : Int) := by have := hI2.out; have := hJ.out; omega
          have hI22 : (I1 : Int) + (1 + (n2 : Int)) = (I2 : Int) := by have := hI2.out; have := hJ.out; omega
          have hI2l : I2 ≤ s.size := by have := hI2.out; have := hJ.out; omega
          have hI2g : (J : Int) ≤ (I2 : Int) := by have := hI2.out; have := hJ.out; omega
          by_cases hinI2 : I2 < s.size
          · have hinII2 : (I2 : Int) < (s.size : Int) := by omega
            have hatI2 := at_list hl.out I2 (by omega)
            have hatHI2 : Hid (l[I2]? = some s[I2]) := hatI2
            clear hatI2
            by_cases hqI2 : s[I2] = 101
            · have hqII2 : ((s[I2].toNat : Int) == 101) = true := by rw [u8_eqb _ 101 101 rfl]; exact decide_eq_true hqI2
              have hqHI2 : Hid (s[I2] = 101) := hqI2
              clear hqI2
              have hn2l : n2 ≤ 400 := by omega
              obtain ⟨I12, hI12⟩ : ∃ i : Nat, Hid (i = I2 + 1) := ⟨_, rfl⟩
              have hI120 : (I2 : Int) + 1 = (I12 : Int) := by have := hI12.out; omega
              have hI12l : I12 ≤ s.size := by have := hI12.out; omega
              have hI12g : (I2 : Int) ≤ (I12 : Int) := by have := hI12.out; omega
              by_cases hinI12 : I12 < s.size
              · have hinII12 : (I12 : Int) < (s.size : Int) := by omega
                have hatI12 := at_list hl.out I12 (by omega)
                have hatHI12 : Hid (l[I12]? = some s[I12]) := hatI12
                clear hatI12
                by_cases hqI12 : s[I12] = 45
                · have hqII12 : ((s[I12].toNat : Int) == 45) = true := by rw [u8_eqb _ 45 45 rfl]; exact decide_eq_true hqI12
                  have hqHI12 : Hid (s[I12] = 45) := hqI12
                  clear hqI12
                  obtain ⟨I13, hI13⟩ : ∃ i : Nat, Hid (i = I12 + 1) := ⟨_, rfl⟩
                  have hI130 : (I12 : Int) + 1 = (I13 : Int) := by have := hI13.out; omega
                  have hI13l : I13 ≤ s.size := by have := hI13.out; omega
                  have hI13g : (I12 : Int) ≤ (I13 : Int) := by have := hI13.out; omega
                  have hcutmI13 : Hid (cut1 45 (l.drop (I2 + 1)) = (l.drop I13, true)) := by show _ = _; rw [← hI12.out, cut1_at hatHI12.out, if_pos hqHI12.out, hI13.out]
                  go_wp2_with fail
                  refine (rrun_c s I13 w (by omega) (by omega)).mono ?_
                  rintro e w' ⟨rfl, rfl⟩
                  obtain ⟨n22, hn22⟩ : ∃ n, Hid (Dg.rl (l.drop I13) = n) := ⟨_, rfl⟩
                  rw [hl.out, hn22.out]
                  have hb22 := run_len hl.out hn22.out (by omega)
                  by_cases hz22 : n22 = 0
                  · subst hz22
                    have hres : Hid (pr3 l = none) := (q_dot hl4.out hcut.out hn1.out hz1 hI1.out hcutd.out hn2'.out hz2 hI2.out).trans (q_e0 (by rw [← hqHI2.out]; exact hatHI2.out) hcutmI13.out hn22.out)
                    go_wp2
                    go_ret2
                    exact ⟨_, rfl, .inl ⟨hres.out, rfl⟩, Below.refl _ _⟩
                  · have hzI22 : ((n22 : Int) == 0) = false := beq_eq_false_iff_ne.2 (by omega)
                    obtain ⟨I22, hI22⟩ : ∃ i : Nat, Hid (i = I13 + n22) := ⟨_, rfl⟩
                    have hI220 : (I13 : Int) + (n22 : Int) = (I22 : Int) := by have := hI22.out; omega
                    have hI22l : I22 ≤ s.size := by have := hI22.out; omega
                    have hI22g : (I13 : Int) ≤ (I22 : Int) := by have := hI22.out; omega
                    by_cases hinI22 : I22 < s.size
                    · have hinII22 : (I22 : Int) < (s.size : Int) := by omega
                      obtain ⟨N, hN⟩ : ∃ N : Nat, Hid (N = exg ((l.drop I13).take n22)) := ⟨_, rfl⟩
                      have hNl : N ≤ 100000 := by rw [hN.out]; exact exg_le _
                      go_wp2_with fail
                      refine (rnum_x _ ((l.drop I13).take n22) w (ex_take hl.out hI22.out) (Nat.le_trans (take_len _ _) (by have := hl4.out; omega)) (take_dig hn22.out)).mono ?_
                      rintro e w' ⟨rfl, rfl⟩
                      rw [← hN.out]
                      have hoII22 : ((I22 : Int) == (s.size : Int)) = false := beq_eq_false_iff_ne.2 (by omega)
                      have hoNI22 : ((I22 : Int) != (s.size : Int)) = true := by simp [bne, hoII22]
                      have hres : Hid (pr3 l = none) := (q_dot hl4.out hcut.out hn1.out hz1 hI1.out hcutd.out hn2'.out hz2 hI2.out).trans (q_eb (by rw [← hqHI2.out]; exact hatHI2.out) hcutmI13.out hn22.out hz22 (by have := hlen.out; have := hI22.out; omega))
                      go_wp2
                      go_ret2
                      exact ⟨_, rfl, .inl ⟨hres.out, rfl⟩, Below.refl _ _⟩
                    · have hinII22 : ¬ ((I22 : Int) < (s.size : Int)) := by omega
                      have hoII22 : ((I22 : Int) == (s.size : Int)) = true := beq_iff_eq.2 (by omega)
                      have hoNI22 : ((I22 : Int) != (s.size : Int)) = false := by simp [bne, hoII22]
                      obtain ⟨N, hN⟩ : ∃ N : Nat, Hid (N = exg ((l.drop I13).take n22)) := ⟨_, rfl⟩
                      have hNl : N ≤ 100000 := by rw [hN.out]; exact exg_le _
                      have hxbd : Hid (N ≤ 100000) := hNl
                      go_wp2_with fail
                      refine (rnum_x _ ((l.drop I13).take n22) w (ex_take hl.out hI22.out) (Nat.le_trans (take_len _ _) (by have := hl4.out; omega)) (take_dig hn22.out)).mono ?_
                      rintro e w' ⟨rfl, rfl⟩
                      rw [← hN.out]
                      have hres : Hid (pr3 l = some (true, (l.drop 1).take n1 ++ (l.drop (I1 + 1)).take n2, -((N : Nat) : Int) - ((n2 : Nat) : Int))) := by have h := q_dot hl4.out hcut.out hn1.out hz1 hI1.out hcutd.out hn2'.out hz2 hI2.out; have h2 := q_eok (mi := true) (acc := (l.drop 1).take n1 ++ (l.drop (I1 + 1)).take n2) (k := n2) (by rw [← hqHI2.out]; exact hatHI2.out) hcutmI13.out hn22.out hz22 (by have := hlen.out; have := hI22.out; omega); rw [← hN.out] at h2; exact h.trans h2
                      have hxb : Hid (-1000000 ≤ -((N : Nat) : Int) - ((n2 : Nat) : Int) ∧ -((N : Nat) : Int) - ((n2 : Nat) : Int) ≤ 1000000) := by have := hxbd.out; show _ ∧ _; omega
                      go_wp2_with fail
                      refine (rread_x _ _ ((l.drop 1).take n1 ++ (l.drop (I1 + 1)).take n2) (-((N : Nat) : Int) - ((n2 : Nat) : Int)) _ w (by omega) (by rw [ap_list, ex_take hl.out hI1.out, ex_take hl.out (show I2 = J + n2 by have := hI2.out; have := hJ.out; omega), hJ.out]) (by rw [List.length_append]; have h8 := List.length_take_le n1 (l.drop 1); have h9 := List.length_take_le n2 (l.drop (I1 + 1)); have := hI1.out; have := hI2.out; omega) rfl (fun b hb => by rcases List.mem_append.1 hb with h9 | h9; exact take_dig hn1.out b h9; exact take_dig hn2'.out b h9) hxb.out.1 hxb.out.2).mono ?_
                      rintro e w1 ⟨v, rfl, ⟨b, sv, o, rfl, hsp, ho, hbs⟩, hb1⟩
                      have hspH : Hid (Rd.Sp (Dg.dv ((l.drop 1).take n1 ++ (l.drop (I1 + 1)).take n2)) (-((N : Nat) : Int) - ((n2 : Nat) : Int)) sv) := hsp
                      have hb1H : Hid (Below w.heap.size w w1) := hb1
                      cases o with
                      | true =>
                        have hov : Hid (Rd.inf ≤ sv) := ho.1 rfl
                        clear hsp hb1 ho hbs hxb
                        go_wp2
                        go_ret2
                        exact ⟨_, rfl, .inr ⟨_, _, _, _, hres.out, hspH.out, .inl ⟨hov.out, rfl⟩⟩, hb1H.out⟩
                      | false =>
                        have hbl : sv < Rd.inf := by
                          apply Nat.lt_of_not_le
                          intro h9
                          have := ho.2 h9
                          cases this
                        have hbe := hbs rfl
                        subst hbe
                        have hor := or_sgn b hbl
                        have hbH : Hid (b < Rd.inf) := hbl
                        clear hsp hb1 ho hbs hxb hbl
                        go_wp2_with fail
                        have hnf : Hid (Calls Tryz.prog 6 #[.int .u64 ((b + 9223372036854775808 : Nat) : Int)] w1 fun e w' => e = .returned (.float .f64 (b + sg true)) ∧ w1 = w') := by
                          have h := natFloat_c (b + sg true) w1 (by have := hbH.out; unfold Rd.inf at this; unfold sg; simp; omega)
                          rw [bt_fin3 b true hbH.out] at h
                          exact h
                        refine hnf.out.mono ?_
                        rintro e w' ⟨rfl, rfl⟩
                        clear hnf hor
                        go_wp2
                        go_ret2
                        exact ⟨_, rfl, .inr ⟨_, _, _, _, hres.out, hspH.out, .inr ⟨hbH.out, rfl⟩⟩, hb1H.out⟩
                · have hqII12 : ((s[I12].toNat : Int) == 45) = false := by rw [u8_eqb _ 45 45 rfl]; exact decide_eq_false hqI12
                  have hqHI12 : Hid (s[I12] ≠ 45) := hqI12
                  clear hqI12
                  have hcutmI12 : Hid (cut1 45 (l.drop (I2 + 1)) = (l.drop I12, false)) := by show _ = _; rw [← hI12.out, cut1_at hatHI12.out, if_neg hqHI12.out]
                  go_wp2_with fail
                  refine (rrun_c s I12 w (by omega) (by omega)).mono ?_
                  rintro e w' ⟨rfl, rfl⟩
                  obtain ⟨n22, hn22⟩ : ∃ n, Hid (Dg.rl (l.drop I12) = n) := ⟨_, rfl⟩
                  rw [hl.out, hn22.out]
                  have hb22 := run_len hl.out hn22.out (by omega)
                  by_cases hz22 : n22 = 0
                  · subst hz22
                    have hres : Hid (pr3 l = none) := (q_dot hl4.out hcut.out hn1.out hz1 hI1.out hcutd.out hn2'.out hz2 hI2.out).trans (q_e0 (by rw [← hqHI2.out]; exact hatHI2.out) hcutmI12.out hn22.out)
                    go_wp2
                    go_ret2
                    exact ⟨_, rfl, .inl ⟨hres.out, rfl⟩, Below.refl _ _⟩
                  · have hzI22 : ((n22 : Int) == 0) = false := beq_eq_false_iff_ne.2 (by omega)
                    obtain ⟨I22, hI22⟩ : ∃ i : Nat, Hid (i = I12 + n22) := ⟨_, rfl⟩
                    have hI220 : (I12 : Int) + (n22 : Int) = (I22 : Int) := by have := hI22.out; omega
                    have hI22l : I22 ≤ s.size := by have := hI22.out; omega
                    have hI22g : (I12 : Int) ≤ (I22 : Int) := by have := hI22.out; omega
                    by_cases hinI22 : I22 < s.size
                    · have hinII22 : (I22 : Int) < (s.size : Int) := by omega
                      obtain ⟨N, hN⟩ : ∃ N : Nat, Hid (N = exg ((l.drop I12).take n22)) := ⟨_, rfl⟩
                      have hNl : N ≤ 100000 := by rw [hN.out]; exact exg_le _
                      go_wp2_with fail
                      refine (rnum_x _ ((l.drop I12).take n22) w (ex_take hl.out hI22.out) (Nat.le_trans (take_len _ _) (by have := hl4.out; omega)) (take_dig hn22.out)).mono ?_
                      rintro e w' ⟨rfl, rfl⟩
                      rw [← hN.out]
                      have hoII22 : ((I22 : Int) == (s.size : Int)) = false := beq_eq_false_iff_ne.2 (by omega)
                      have hoNI22 : ((I22 : Int) != (s.size : Int)) = true := by simp [bne, hoII22]
                      have hres : Hid (pr3 l = none) := (q_dot hl4.out hcut.out hn1.out hz1 hI1.out hcutd.out hn2'.out hz2 hI2.out).trans (q_eb (by rw [← hqHI2.out]; exact hatHI2.out) hcutmI12.out hn22.out hz22 (by have := hlen.out; have := hI22.out; omega))
                      go_wp2
                      go_ret2
                      exact ⟨_, rfl, .inl ⟨hres.out, rfl⟩, Below.refl _ _⟩
                    · have hinII22 : ¬ ((I22 : Int) < (s.size : Int)) := by omega
                      have hoII22 : ((I22 : Int) == (s.size : Int)) = true := beq_iff_eq.2 (by omega)
                      have hoNI22 : ((I22 : Int) != (s.size : Int)) = false := by simp [bne, hoII22]
                      obtain ⟨N, hN⟩ : ∃ N : Nat, Hid (N = exg ((l.drop I12).take n22)) := ⟨_, rfl⟩
                      have hNl : N ≤ 100000 := by rw [hN.out]; exact exg_le _
                      have hxbd : Hid (N ≤ 100000) := hNl
                      go_wp2_with fail
                      refine (rnum_x _ ((l.drop I12).take n22) w (ex_take hl.out hI22.out) (Nat.le_trans (take_len _ _) (by have := hl4.out; omega)) (take_dig hn22.out)).mono ?_
                      rintro e w' ⟨rfl, rfl⟩
                      rw [← hN.out]
                      have hres : Hid (pr3 l = some (true, (l.drop 1).take n1 ++ (l.drop (I1 + 1)).take n2, ((N : Nat) : Int) - ((n2 : Nat) : Int))) := by have h := q_dot hl4.out hcut.out hn1.out hz1 hI1.out hcutd.out hn2'.out hz2 hI2.out; have h2 := q_eok (mi := true) (acc := (l.drop 1).take n1 ++ (l.drop (I1 + 1)).take n2) (k := n2) (by rw [← hqHI2.out]; exact hatHI2.out) hcutmI12.out hn22.out hz22 (by have := hlen.out; have := hI22.out; omega); rw [← hN.out] at h2; exact h.trans h2
                      have hxb : Hid (-1000000 ≤ ((N : Nat) : Int) - ((n2 : Nat) : Int) ∧ ((N : Nat) : Int) - ((n2 : Nat) : Int) ≤ 1000000) := by have := hxbd.out; show _ ∧ _; omega
                      go_wp2_with fail
                      refine (rread_x _ _ ((l.drop 1).take n1 ++ (l.drop (I1 + 1)).take n2) (((N : Nat) : Int) - ((n2 : Nat) : Int)) _ w (by omega) (by rw [ap_list, ex_take hl.out hI1.out, ex_take hl.out (show I2 = J + n2 by have := hI2.out; have := hJ.out; omega), hJ.out]) (by rw [List.length_append]; have h8 := List.length_take_le n1 (l.drop 1); have h9 := List.length_take_le n2 (l.drop (I1 + 1)); have := hI1.out; have := hI2.out; omega) rfl (fun b hb => by rcases List.mem_append.1 hb with h9 | h9; exact take_dig hn1.out b h9; exact take_dig hn2'.out b h9) hxb.out.1 hxb.out.2).mono ?_
                      rintro e w1 ⟨v, rfl, ⟨b, sv, o, rfl, hsp, ho, hbs⟩, hb1⟩
                      have hspH : Hid (Rd.Sp (Dg.dv ((l.drop 1).take n1 ++ (l.drop (I1 + 1)).take n2)) (((N : Nat) : Int) - ((n2 : Nat) : Int)) sv) := hsp
                      have hb1H : Hid (Below w.heap.size w w1) := hb1
                      cases o with
                      | true =>
                        have hov : Hid (Rd.inf ≤ sv) := ho.1 rfl
                        clear hsp hb1 ho hbs hxb
                        go_wp2
                        go_ret2
                        exact ⟨_, rfl, .inr ⟨_, _, _, _, hres.out, hspH.out, .inl ⟨hov.out, rfl⟩⟩, hb1H.out⟩
                      | false =>
                        have hbl : sv < Rd.inf := by
                          apply Nat.lt_of_not_le
                          intro h9
                          have := ho.2 h9
                          cases this
                        have hbe := hbs rfl
                        subst hbe
                        have hor := or_sgn b hbl
                        have hbH : Hid (b < Rd.inf) := hbl
                        clear hsp hb1 ho hbs hxb hbl
                        go_wp2_with fail
                        have hnf : Hid (Calls Tryz.prog 6 #[.int .u64 ((b + 9223372036854775808 : Nat) : Int)] w1 fun e w' => e = .returned (.float .f64 (b + sg true)) ∧ w1 = w') := by
                          have h := natFloat_c (b + sg true) w1 (by have := hbH.out; unfold Rd.inf at this; unfold sg; simp; omega)
                          rw [bt_fin3 b true hbH.out] at h
                          exact h
                        refine hnf.out.mono ?_
                        rintro e w' ⟨rfl, rfl⟩
                        clear hnf hor
                        go_wp2
                        go_ret2
                        exact ⟨_, rfl, .inr ⟨_, _, _, _, hres.out, hspH.out, .inr ⟨hbH.out, rfl⟩⟩, hb1H.out⟩
              · have hinII12 : ¬ ((I12 : Int) < (s.size : Int)) := by omega
                have hoII12 : ((I12 : Int) == (s.size : Int)) = true := beq_iff_eq.2 (by omega)
                have hoNI12 : ((I12 : Int) != (s.size : Int)) = false := by simp [bne, hoII12]
                have hcutmI12 : Hid (cut1 45 (l.drop (I2 + 1)) = (l.drop I12, false)) := by show _ = _; rw [← hI12.out, List.drop_of_length_le (by have := hlen.out; omega)]; rfl
                go_wp2_with fail
                refine (rrun_c s I12 w (by omega) (by omega)).mono ?_
                rintro e w' ⟨rfl, rfl⟩
                have hn99 : Hid (Dg.rl (l.drop I12) = 0) := by show _ = _; rw [List.drop_of_length_le (by have := hlen.out; omega)]; rfl
                rw [hl.out, hn99.out]
                have hres : Hid (pr3 l = none) := (q_dot hl4.out hcut.out hn1.out hz1 hI1.out hcutd.out hn2'.out hz2 hI2.out).trans (q_e0 (by rw [← hqHI2.out]; exact hatHI2.out) hcutmI12.out hn99.out)
                go_wp2
                go_ret2
                exact ⟨_, rfl, .inl ⟨hres.out, rfl⟩, Below.refl _ _⟩
            · have hqII2 : ((s[I2].toNat : Int) == 101) = false := by rw [u8_eqb _ 101 101 rfl]; exact decide_eq_false hqI2
              have hqHI2 : Hid (s[I2] ≠ 101) := hqI2
              clear hqI2
              have hoII2 : ((I2 : Int) == (s.size : Int)) = false := beq_eq_false_iff_ne.2 (by omega)
              have hoNI2 : ((I2 : Int) != (s.size : Int)) = true := by simp [bne, hoII2]
              have hres : Hid (pr3 l = none) := (q_dot hl4.out hcut.out hn1.out hz1 hI1.out hcutd.out hn2'.out hz2 hI2.out).trans (q_note hatHI2.out hqHI2.out)
              go_wp2
              go_ret2
              exact ⟨_, rfl, .inl ⟨hres.out, rfl⟩, Below.refl _ _⟩
          · have hinII2 : ¬ ((I2 : Int) < (s.size : Int)) := by omega
            have hoII2 : ((I2 : Int) == (s.size : Int)) = true := beq_iff_eq.2 (by omega)
            have hoNI2 : ((I2 : Int) != (s.size : Int)) = false := by simp [bne, hoII2]
            have hn2l : n2 ≤ 400 := by omega
            have hxbd : Hid (n2 ≤ 400) := hn2l
            have hres : Hid (pr3 l = some (true, (l.drop 1).take n1 ++ (l.drop (I1 + 1)).take n2, -((n2 : Nat) : Int))) := (q_dot hl4.out hcut.out hn1.out hz1 hI1.out hcutd.out hn2'.out hz2 hI2.out).trans (q_end (by have := hlen.out; omega))
            have hxb : Hid (-1000000 ≤ -((n2 : Nat) : Int) ∧ -((n2 : Nat) : Int) ≤ 1000000) := by have := hxbd.out; show _ ∧ _; omega
            go_wp2_with fail
            refine (rread_x _ _ ((l.drop 1).take n1 ++ (l.drop (I1 + 1)).take n2) (-((n2 : Nat) : Int)) _ w (by first | rfl | omega) (by rw [ap_list, ex_take hl.out hI1.out, ex_take hl.out (show I2 = J + n2 by have := hI2.out; have := hJ.out; omega), hJ.out]) (by rw [List.length_append]; have h8 := List.length_take_le n1 (l.drop 1); have h9 := List.length_take_le n2 (l.drop (I1 + 1)); have := hI1.out; have := hI2.out; omega) rfl (fun b hb => by rcases List.mem_append.1 hb with h9 | h9; exact take_dig hn1.out b h9; exact take_dig hn2'.out b h9) hxb.out.1 hxb.out.2).mono ?_
            rintro e w1 ⟨v, rfl, ⟨b, sv, o, rfl, hsp, ho, hbs⟩, hb1⟩
            have hspH : Hid (Rd.Sp (Dg.dv ((l.drop 1).take n1 ++ (l.drop (I1 + 1)).take n2)) (-((n2 : Nat) : Int)) sv) := hsp
            have hb1H : Hid (Below w.heap.size w w1) := hb1
            cases o with
            | true =>
              have hov : Hid (Rd.inf ≤ sv) := ho.1 rfl
              clear hsp hb1 ho hbs hxb
              go_wp2
              go_ret2
              exact ⟨_, rfl, .inr ⟨_, _, _, _, hres.out, hspH.out, .inl ⟨hov.out, rfl⟩⟩, hb1H.out⟩
            | false =>
              have hbl : sv < Rd.inf := by
                apply Nat.lt_of_not_le
                intro h9
                have := ho.2 h9
                cases this
              have hbe := hbs rfl
              subst hbe
              have hor := or_sgn b hbl
              have hbH : Hid (b < Rd.inf) := hbl
              clear hsp hb1 ho hbs hxb hbl
              go_wp2_with fail
              have hnf : Hid (Calls Tryz.prog 6 #[.int .u64 ((b + 9223372036854775808 : Nat) : Int)] w1 fun e w' => e = .returned (.float .f64 (b + sg true)) ∧ w1 = w') := by
                have h := natFloat_c (b + sg true) w1 (by have := hbH.out; unfold Rd.inf at this; unfold sg; simp; omega)
                rw [bt_fin3 b true hbH.out] at h
                exact h
              refine hnf.out.mono ?_
              rintro e w' ⟨rfl, rfl⟩
              clear hnf hor
              go_wp2
              go_ret2
              exact ⟨_, rfl, .inr ⟨_, _, _, _, hres.out, hspH.out, .inr ⟨hbH.out, rfl⟩⟩, hb1H.out⟩
      · have hqII1 : ((s[I1].toNat : Int) == 46) = false := by rw [u8_eqb _ 46 46 rfl]; exact decide_eq_false hqI1
        have hqHI1 : Hid (s[I1] ≠ 46) := hqI1
        clear hqI1
        have hcutd : Hid (cut1 46 (l.drop I1) = (l.drop I1, false)) := by show _ = _; rw [cut1_at hatHI1.out, if_neg hqHI1.out]
        have hdotI := hqII1
        have hdotH := hqHI1
        clear hqII1 hqHI1
        by_cases hqI1 : s[I1] = 101
        · have hqII1 : ((s[I1].toNat : Int) == 101) = true := by rw [u8_eqb _ 101 101 rfl]; exact decide_eq_true hqI1
          have hqHI1 : Hid (s[I1] = 101) := hqI1
          clear hqI1
          obtain ⟨I11, hI11⟩ : ∃ i : Nat, Hid (i = I1 + 1) := ⟨_, rfl⟩
          have hI110 : (I1 : Int) + 1 = (I11 : Int) := by have := hI11.out; omega
          have hI11l : I11 ≤ s.size := by have := hI11.out; omega
          have hI11g : (I1 : Int) ≤ (I11 : Int) := by have := hI11.out; omega
          by_cases hinI11 : I11 < s.size
          · have hinII11 : (I11 : Int) < (s.size : Int) := by omega
            have hatI11 := at_list hl.out I11 (by omega)
            have hatHI11 : Hid (l[I11]? = some s[I11]) := hatI11
            clear hatI11
            by_cases hqI11 : s[I11] = 45
            · have hqII11 : ((s[I11].toNat : Int) == 45) = true := by rw [u8_eqb _ 45 45 rfl]; exact decide_eq_true hqI11
              have hqHI11 : Hid (s[I11] = 45) := hqI11
              clear hqI11
              obtain ⟨I12, hI12⟩ : ∃ i : Nat, Hid (i = I11 + 1) := ⟨_, rfl⟩
              have hI120 : (I11 : Int) + 1 = (I12 : Int) := by have := hI12.out; omega
              have hI12l : I12 ≤ s.size := by have := hI12.out; omega
              have hI12g : (I11 : Int) ≤ (I12 : Int) := by have := hI12.out; omega
              have hcutmI12 : Hid (cut1 45 (l.drop (I1 + 1)) = (l.drop I12, true)) := by show _ = _; rw [← hI11.out, cut1_at hatHI11.out, if_pos hqHI11.out, hI12.out]
              go_wp2_with fail
              refine (rrun_c s I12 w (by omega) (by omega)).mono ?_
              rintro e w' ⟨rfl, rfl⟩
              obtain ⟨n21, hn21⟩ : ∃ n, Hid (Dg.rl (l.drop I12) = n) := ⟨_, rfl⟩
              rw [hl.out, hn21.out]
              have hb21 := run_len hl.out hn21.out (by omega)
              by_cases hz21 : n21 = 0
              · subst hz21
                have hres : Hid (pr3 l = none) := (q_plain hl4.out hcut.out hn1.out hz1 hI1.out hcutd.out).trans (q_e0 (by rw [← hqHI1.out]; exact hatHI1.out) hcutmI12.out hn21.out)
                go_wp2
                go_ret2
                exact ⟨_, rfl, .inl ⟨hres.out, rfl⟩, Below.refl _ _⟩
              · have hzI21 : ((n21 : Int) == 0) = false := beq_eq_false_iff_ne.2 (by omega)
                obtain ⟨I21, hI21⟩ : ∃ i : Nat, Hid (i = I12 + n21) := ⟨_, rfl⟩
                have hI210 : (I12 : Int) + (n21 : Int) = (I21 : Int) := by have := hI21.out; omega
                have hI21l : I21 ≤ s.size := by have := hI21.out; omega
                have hI21g : (I12 : Int) ≤ (I21 : Int) := by have := hI21.out; omega
                by_cases hinI21 : I21 < s.size
                · have hinII21 : (I21 : Int) < (s.size : Int) := by omega
                  obtain ⟨N, hN⟩ : ∃ N : Nat, Hid (N = exg ((l.drop I12).take n21)) := ⟨_, rfl⟩
                  have hNl : N ≤ 100000 := by rw [hN.out]; exact exg_le _
                  go_wp2_with fail
                  refine (rnum_x _ ((l.drop I12).take n21) w (ex_take hl.out hI21.out) (Nat.le_trans (take_len _ _) (by have := hl4.out; omega)) (take_dig hn21.out)).mono ?_
                  rintro e w' ⟨rfl, rfl⟩
                  rw [← hN.out]
                  have hoII21 : ((I21 : Int) == (s.size : Int)) = false := beq_eq_false_iff_ne.2 (by omega)
                  have hoNI21 : ((I21 : Int) != (s.size : Int)) = true := by simp [bne, hoII21]
                  have hres : Hid (pr3 l = none) := (q_plain hl4.out hcut.out hn1.out hz1 hI1.out hcutd.out).trans (q_eb (by rw [← hqHI1.out]; exact hatHI1.out) hcutmI12.out hn21.out hz21 (by have := hlen.out; have := hI21.out; omega))
                  go_wp2
                  go_ret2
                  exact ⟨_, rfl, .inl ⟨hres.out, rfl⟩, Below.refl _ _⟩
                · have hinII21 : ¬ ((I21 : Int) < (s.size : Int)) := by omega
                  have hoII21 : ((I21 : Int) == (s.size : Int)) = true := beq_iff_eq.2 (by omega)
                  have hoNI21 : ((I21 : Int) != (s.size : Int)) = false := by simp [bne, hoII21]
                  obtain ⟨N, hN⟩ : ∃ N : Nat, Hid (N = exg ((l.drop I12).take n21)) := ⟨_, rfl⟩
                  have hNl : N ≤ 100000 := by rw [hN.out]; exact exg_le _
                  have hxbd : Hid (N ≤ 100000) := hNl
                  go_wp2_with fail
                  refine (rnum_x _ ((l.drop I12).take n21) w (ex_take hl.out hI21.out) (Nat.le_trans (take_len _ _) (by have := hl4.out; omega)) (take_dig hn21.out)).mono ?_
                  rintro e w' ⟨rfl, rfl⟩
                  rw [← hN.out]
                  have hres : Hid (pr3 l = some (true, (l.drop 1).take n1, -((N : Nat) : Int) - ((0 : Nat) : Int))) := by have h := q_plain hl4.out hcut.out hn1.out hz1 hI1.out hcutd.out; have h2 := q_eok (mi := true) (acc := (l.drop 1).take n1) (k := 0) (by rw [← hqHI1.out]; exact hatHI1.out) hcutmI12.out hn21.out hz21 (by have := hlen.out; have := hI21.out; omega); rw [← hN.out] at h2; exact h.trans h2
                  have hxb : Hid (-1000000 ≤ -((N : Nat) : Int) - ((0 : Nat) : Int) ∧ -((N : Nat) : Int) - ((0 : Nat) : Int) ≤ 1000000) := by have := hxbd.out; show _ ∧ _; omega
                  go_wp2_with fail
                  refine (rread_x _ _ ((l.drop 1).take n1) (-((N : Nat) : Int) - ((0 : Nat) : Int)) _ w (by omega) (ex_take hl.out hI1.out) (Nat.le_trans (take_len _ _) (by have := hl4.out; omega)) rfl (take_dig hn1.out) hxb.out.1 hxb.out.2).mono ?_
                  rintro e w1 ⟨v, rfl, ⟨b, sv, o, rfl, hsp, ho, hbs⟩, hb1⟩
                  have hspH : Hid (Rd.Sp (Dg.dv ((l.drop 1).take n1)) (-((N : Nat) : Int) - ((0 : Nat) : Int)) sv) := hsp
                  have hb1H : Hid (Below w.heap.size w w1) := hb1
                  cases o with
                  | true =>
                    have hov : Hid (Rd.inf ≤ sv) := ho.1 rfl
                    clear hsp hb1 ho hbs hxb
                    go_wp2
                    go_ret2
                    exact ⟨_, rfl, .inr ⟨_, _, _, _, hres.out, hspH.out, .inl ⟨hov.out, rfl⟩⟩, hb1H.out⟩
                  | false =>
                    have hbl : sv < Rd.inf := by
                      apply Nat.lt_of_not_le
                      intro h9
                      have := ho.2 h9
                      cases this
                    have hbe := hbs rfl
                    subst hbe
                    have hor := or_sgn b hbl
                    have hbH : Hid (b < Rd.inf) := hbl
                    clear hsp hb1 ho hbs hxb hbl
                    go_wp2_with fail
                    have hnf : Hid (Calls Tryz.prog 6 #[.int .u64 ((b + 9223372036854775808 : Nat) : Int)] w1 fun e w' => e = .returned (.float .f64 (b + sg true)) ∧ w1 = w') := by
                      have h := natFloat_c (b + sg true) w1 (by have := hbH.out; unfold Rd.inf at this; unfold sg; simp; omega)
                      rw [bt_fin3 b true hbH.out] at h
                      exact h
                    refine hnf.out.mono ?_
                    rintro e w' ⟨rfl, rfl⟩
                    clear hnf hor
                    go_wp2
                    go_ret2
                    exact ⟨_, rfl, .inr ⟨_, _, _, _, hres.out, hspH.out, .inr ⟨hbH.out, rfl⟩⟩, hb1H.out⟩
            · have hqII11 : ((s[I11].toNat : Int) == 45) = false := by rw [u8_eqb _ 45 45 rfl]; exact decide_eq_false hqI11
              have hqHI11 : Hid (s[I11] ≠ 45) := hqI11
              clear hqI11
              have hcutmI11 : Hid (cut1 45 (l.drop (I1 + 1)) = (l.drop I11, false)) := by show _ = _; rw [← hI11.out, cut1_at hatHI11.out, if_neg hqHI11.out]
              go_wp2_with fail
              refine (rrun_c s I11 w (by omega) (by omega)).mono ?_
              rintro e w' ⟨rfl, rfl⟩
              obtain ⟨n21, hn21⟩ : ∃ n, Hid (Dg.rl (l.drop I11) = n) := ⟨_, rfl⟩
              rw [hl.out, hn21.out]
              have hb21 := run_len hl.out hn21.out (by omega)
              by_cases hz21 : n21 = 0
              · subst hz21
                have hres : Hid (pr3 l = none) := (q_plain hl4.out hcut.out hn1.out hz1 hI1.out hcutd.out).trans (q_e0 (by rw [← hqHI1.out]; exact hatHI1.out) hcutmI11.out hn21.out)
                go_wp2
                go_ret2
                exact ⟨_, rfl, .inl ⟨hres.out, rfl⟩, Below.refl _ _⟩
              · have hzI21 : ((n21 : Int) == 0) = false := beq_eq_false_iff_ne.2 (by omega)
                obtain ⟨I21, hI21⟩ : ∃ i : Nat, Hid (i = I11 + n21) := ⟨_, rfl⟩
                have hI210 : (I11 : Int) + (n21 : Int) = (I21 : Int) := by have := hI21.out; omega
                have hI21l : I21 ≤ s.size := by have := hI21.out; omega
                have hI21g : (I11 : Int) ≤ (I21 : Int) := by have := hI21.out; omega
                by_cases hinI21 : I21 < s.size
                · have hinII21 : (I21 : Int) < (s.size : Int) := by omega
                  obtain ⟨N, hN⟩ : ∃ N : Nat, Hid (N = exg ((l.drop I11).take n21)) := ⟨_, rfl⟩
                  have hNl : N ≤ 100000 := by rw [hN.out]; exact exg_le _
                  go_wp2_with fail
                  refine (rnum_x _ ((l.drop I11).take n21) w (ex_take hl.out hI21.out) (Nat.le_trans (take_len _ _) (by have := hl4.out; omega)) (take_dig hn21.out)).mono ?_
                  rintro e w' ⟨rfl, rfl⟩
                  rw [← hN.out]
                  have hoII21 : ((I21 : Int) == (s.size : Int)) = false := beq_eq_false_iff_ne.2 (by omega)
                  have hoNI21 : ((I21 : Int) != (s.size : Int)) = true := by simp [bne, hoII21]
                  have hres : Hid (pr3 l = none) := (q_plain hl4.out hcut.out hn1.out hz1 hI1.out hcutd.out).trans (q_eb (by rw [← hqHI1.out]; exact hatHI1.out) hcutmI11.out hn21.out hz21 (by have := hlen.out; have := hI21.out; omega))
                  go_wp2
                  go_ret2
                  exact ⟨_, rfl, .inl ⟨hres.out, rfl⟩, Below.refl _ _⟩
                · have hinII21 : ¬ ((I21 : Int) < (s.size : Int)) := by omega
                  have hoII21 : ((I21 : Int) == (s.size : Int)) = true := beq_iff_eq.2 (by omega)
                  have hoNI21 : ((I21 : Int) != (s.size : Int)) = false := by simp [bne, hoII21]
                  obtain ⟨N, hN⟩ : ∃ N : Nat, Hid (N = exg ((l.drop I11).take n21)) := ⟨_, rfl⟩
                  have hNl : N ≤ 100000 := by rw [hN.out]; exact exg_le _
                  have hxbd : Hid (N ≤ 100000) := hNl
                  go_wp2_with fail
                  refine (rnum_x _ ((l.drop I11).take n21) w (ex_take hl.out hI21.out) (Nat.le_trans (take_len _ _) (by have := hl4.out; omega)) (take_dig hn21.out)).mono ?_
                  rintro e w' ⟨rfl, rfl⟩
                  rw [← hN.out]
                  have hres : Hid (pr3 l = some (true, (l.drop 1).take n1, ((N : Nat) : Int) - ((0 : Nat) : Int))) := by have h := q_plain hl4.out hcut.out hn1.out hz1 hI1.out hcutd.out; have h2 := q_eok (mi := true) (acc := (l.drop 1).take n1) (k := 0) (by rw [← hqHI1.out]; exact hatHI1.out) hcutmI11.out hn21.out hz21 (by have := hlen.out; have := hI21.out; omega); rw [← hN.out] at h2; exact h.trans h2
                  have hxb : Hid (-1000000 ≤ ((N : Nat) : Int) - ((0 : Nat) : Int) ∧ ((N : Nat) : Int) - ((0 : Nat) : Int) ≤ 1000000) := by have := hxbd.out; show _ ∧ _; omega
                  go_wp2_with fail
                  refine (rread_x _ _ ((l.drop 1).take n1) (((N : Nat) : Int) - ((0 : Nat) : Int)) _ w (by omega) (ex_take hl.out hI1.out) (Nat.le_trans (take_len _ _) (by have := hl4.out; omega)) rfl (take_dig hn1.out) hxb.out.1 hxb.out.2).mono ?_
                  rintro e w1 ⟨v, rfl, ⟨b, sv, o, rfl, hsp, ho, hbs⟩, hb1⟩
                  have hspH : Hid (Rd.Sp (Dg.dv ((l.drop 1).take n1)) (((N : Nat) : Int) - ((0 : Nat) : Int)) sv) := hsp
                  have hb1H : Hid (Below w.heap.size w w1) := hb1
                  cases o with
                  | true =>
                    have hov : Hid (Rd.inf ≤ sv) := ho.1 rfl
                    clear hsp hb1 ho hbs hxb
                    go_wp2
                    go_ret2
                    exact ⟨_, rfl, .inr ⟨_, _, _, _, hres.out, hspH.out, .inl ⟨hov.out, rfl⟩⟩, hb1H.out⟩
                  | false =>
                    have hbl : sv < Rd.inf := by
                      apply Nat.lt_of_not_le
                      intro h9
                      have := ho.2 h9
                      cases this
                    have hbe := hbs rfl
                    subst hbe
                    have hor := or_sgn b hbl
                    have hbH : Hid (b < Rd.inf) := hbl
                    clear hsp hb1 ho hbs hxb hbl
                    go_wp2_with fail
                    have hnf : Hid (Calls Tryz.prog 6 #[.int .u64 ((b + 9223372036854775808 : Nat) : Int)] w1 fun e w' => e = .returned (.float .f64 (b + sg true)) ∧ w1 = w') := by
                      have h := natFloat_c (b + sg true) w1 (by have := hbH.out; unfold Rd.inf at this; unfold sg; simp; omega)
                      rw [bt_fin3 b true hbH.out] at h
                      exact h
                    refine hnf.out.mono ?_
                    rintro e w' ⟨rfl, rfl⟩
                    clear hnf hor
                    go_wp2
                    go_ret2
                    exact ⟨_, rfl, .inr ⟨_, _, _, _, hres.out, hspH.out, .inr ⟨hbH.out, rfl⟩⟩, hb1H.out⟩
          · have hinII11 : ¬ ((I11 : Int) < (s.size : Int)) := by omega
            have hoII11 : ((I11 : Int) == (s.size : Int)) = true := beq_iff_eq.2 (by omega)
            have hoNI11 : ((I11 : Int) != (s.size : Int)) = false := by simp [bne, hoII11]
            have hcutmI11 : Hid (cut1 45 (l.drop (I1 + 1)) = (l.drop I11, false)) := by show _ = _; rw [← hI11.out, List.drop_of_length_le (by have := hlen.out; omega)]; rfl
            go_wp2_with fail
            refine (rrun_c s I11 w (by omega) (by omega)).mono ?_
            rintro e w' ⟨rfl, rfl⟩
            have hn99 : Hid (Dg.rl (l.drop I11) = 0) := by show _ = _; rw [List.drop_of_length_le (by have := hlen.out; omega)]; rfl
            rw [hl.out, hn99.out]
            have hres : Hid (pr3 l = none) := (q_plain hl4.out hcut.out hn1.out hz1 hI1.out hcutd.out).trans (q_e0 (by rw [← hqHI1.out]; exact hatHI1.out) hcutmI11.out hn99.out)
            go_wp2
            go_ret2
            exact ⟨_, rfl, .inl ⟨hres.out, rfl⟩, Below.refl _ _⟩
        · have hqII1 : ((s[I1].toNat : Int) == 101) = false := by rw [u8_eqb _ 101 101 rfl]; exact decide_eq_false hqI1
          have hqHI1 : Hid (s[I1] ≠ 101) := hqI1
          clear hqI1
          have hoII1 : ((I1 : Int) == (s.size : Int)) = false := beq_eq_false_iff_ne.2 (by omega)
          have hoNI1 : ((I1 : Int) != (s.size : Int)) = true := by simp [bne, hoII1]
          have hres : Hid (pr3 l = none) := (q_plain hl4.out hcut.out hn1.out hz1 hI1.out hcutd.out).trans (q_note hatHI1.out hqHI1.out)
          go_wp2
          go_ret2
          exact ⟨_, rfl, .inl ⟨hres.out, rfl⟩, Below.refl _ _⟩
    · have hinII1 : ¬ ((I1 : Int) < (s.size : Int)) := by omega
      have hoII1 : ((I1 : Int) == (s.size : Int)) = true := beq_iff_eq.2 (by omega)
      have hoNI1 : ((I1 : Int) != (s.size : Int)) = false := by simp [bne, hoII1]
      have hcutd : Hid (cut1 46 (l.drop I1) = (l.drop I1, false)) := by show _ = _; rw [List.drop_of_length_le (by have := hlen.out; omega)]; rfl
      have hxbd : Hid True := trivial
      have hres : Hid (pr3 l = some (true, (l.drop 1).take n1, -((0 : Nat) : Int))) := (q_plain hl4.out hcut.out hn1.out hz1 hI1.out hcutd.out).trans (q_end (by have := hlen.out; omega))
      have hxb : Hid (-1000000 ≤ -((0 : Nat) : Int) ∧ -((0 : Nat) : Int) ≤ 1000000) := by show _ ∧ _; omega
      go_wp2_with fail
      refine (rread_x _ _ ((l.drop 1).take n1) (-((0 : Nat) : Int)) _ w (by first | rfl | omega) (ex_take hl.out hI1.out) (Nat.le_trans (take_len _ _) (by have := hl4.out; omega)) rfl (take_dig hn1.out) hxb.out.1 hxb.out.2).mono ?_
      rintro e w1 ⟨v, rfl, ⟨b, sv, o, rfl, hsp, ho, hbs⟩, hb1⟩
      have hspH : Hid (Rd.Sp (Dg.dv ((l.drop 1).take n1)) (-((0 : Nat) : Int)) sv) := hsp
      have hb1H : Hid (Below w.heap.size w w1) := hb1
      cases o with
      | true =>
        have hov : Hid (Rd.inf ≤ sv) := ho.1 rfl
        clear hsp hb1 ho hbs hxb
        go_wp2
        go_ret2
        exact ⟨_, rfl, .inr ⟨_, _, _, _, hres.out, hspH.out, .inl ⟨hov.out, rfl⟩⟩, hb1H.out⟩
      | false =>
        have hbl : sv < Rd.inf := by
          apply Nat.lt_of_not_le
          intro h9
          have := ho.2 h9
          cases this
        have hbe := hbs rfl
        subst hbe
        have hor := or_sgn b hbl
        have hbH : Hid (b < Rd.inf) := hbl
        clear hsp hb1 ho hbs hxb hbl
        go_wp2_with fail
        have hnf : Hid (Calls Tryz.prog 6 #[.int .u64 ((b + 9223372036854775808 : Nat) : Int)] w1 fun e w' => e = .returned (.float .f64 (b + sg true)) ∧ w1 = w') := by
          have h := natFloat_c (b + sg true) w1 (by have := hbH.out; unfold Rd.inf at this; unfold sg; simp; omega)
          rw [bt_fin3 b true hbH.out] at h
          exact h
        refine hnf.out.mono ?_
        rintro e w' ⟨rfl, rfl⟩
        clear hnf hor
        go_wp2
        go_ret2
        exact ⟨_, rfl, .inr ⟨_, _, _, _, hres.out, hspH.out, .inr ⟨hbH.out, rfl⟩⟩, hb1H.out⟩
set_option maxRecDepth 100000 in
set_option maxHeartbeats 8000000 in
theorem r3_p (s : ByteArray) (l : List UInt8) (w : World) (hl : Hid (s.data.toList = l)) (h1 : (s.toList == [110, 97, 110]) = false) (h2 : (s.toList == [105, 110, 102]) = false) (h3 : (s.toList == [45, 105, 110, 102]) = false) (hsz : s.size ≤ 400)
    (h0 : 0 < s.size) (hc0 : ((s[0].toNat : Int) == 45) = false) (hcut : Hid (cut1 45 l = (l.drop 0, false))) :
    Calls Tryz.prog 10 #[.string s] w fun e w' => ∃ v, e = .returned v ∧ R3 l v ∧ Below w.heap.size w w' := by
  have hszI : ¬ ((400 : Int) < (s.size : Int)) := by omega
  have h0I : (0 : Int) < (s.size : Int) := by omega
  have hlen : Hid (l.length = s.size) := by have := hl.out; subst this; exact rfl
  have hl4 : Hid (l.length ≤ 400) := by have := hlen.out; show _ ≤ _; omega
  go_enter Tryz.func10, Tryz.ntmps10
  go_wp2_with fail
  refine (rrun_c s 0 w (by omega) (by omega)).mono ?_
  rintro e w' ⟨rfl, rfl⟩
  obtain ⟨n1, hn1⟩ : ∃ n, Hid (Dg.rl (l.drop 0) = n) := ⟨_, rfl⟩
  rw [hl.out, hn1.out]
  have hb1 := run_len hl.out hn1.out (by omega)
  by_cases hz1 : n1 = 0
  · subst hz1
    have hres : Hid (pr3 l = none) := q_no hl4.out hcut.out hn1.out rfl
    go_wp2
    go_ret2
    exact ⟨_, rfl, .inl ⟨hres.out, rfl⟩, Below.refl _ _⟩
  · have hzI1 : ((n1 : Int) == 0) = false := beq_eq_false_iff_ne.2 (by omega)
    obtain ⟨I1, hI1⟩ : ∃ i : Nat, Hid (i = 0 + n1) := ⟨_, rfl⟩
    have hI1e : I1 = n1 := by have := hI1.out; omega
    subst hI1e
    have hI1l : I1 ≤ s.size := by have := hI1.out; omega
    have hI1g : (0 : Int) ≤ (I1 : Int) := by have := hI1.out; omega
    by_cases hinI1 : I1 < s.size
    · have hinII1 : (I1 : Int) < (s.size : Int) := by omega
      have hatI1 := at_list hl.out I1 (by omega)
      have hatHI1 : Hid (l[I1]? = some s[I1]) := hatI1
      clear hatI1
      by_cases hqI1 : s[I1] = 46
      · have hqII1 : ((s[I1].toNat : Int) == 46) = true := by rw [u8_eqb _ 46 46 rfl]; exact decide_eq_true hqI1
        have hqHI1 : Hid (s[I1] = 46) := hqI1
        clear hqI1
        have hcutd : Hid (cut1 46 (l.drop I1) = (l.drop (I1 + 1), true)) := by show _ = _; rw [cut1_at hatHI1.out, if_pos hqHI1.out]
        obtain ⟨J, hJ⟩ : ∃ i : Nat, Hid (i = I1 + 1) := ⟨_, rfl⟩
        have hJ0 : (I1 : Int) + 1 = (J : Int) := by have := hJ.out; omega
        have hJl : J ≤ s.size := by have := hJ.out; omega
        have hJg : (I1 : Int) ≤ (J : Int) := by have := hJ.out; omega
        go_wp2_with fail
        refine (rrun_c s J w (by omega) (by omega)).mono ?_
        rintro e w' ⟨rfl, rfl⟩
        obtain ⟨n2, hn2⟩ : ∃ n, Hid (Dg.rl (l.drop J) = n) := ⟨_, rfl⟩
        rw [hl.out, hn2.out]
        have hb2 := run_len hl.out hn2.out (by omega)
        by_cases hz2 : n2 = 0
        · subst hz2
          have hres : Hid (pr3 l = none) := q_dot0 hl4.out hcut.out hn1.out hz1 hI1.out hcutd.out (by rw [← hJ.out]; exact hn2.out)
          go_wp2
          go_ret2
          exact ⟨_, rfl, .inl ⟨hres.out, rfl⟩, Below.refl _ _⟩
        · have hzI2 : ((n2 : Int) == 0) = false := beq_eq_false_iff_ne.2 (by omega)
          have hn2' : Hid (Dg.rl (l.drop (I1 + 1)) = n2) := by rw [← hJ.out]; exact hn2.out
          obtain ⟨I2, hI2⟩ : ∃ i : Nat, Hid (i = I1 + 1 + n2) := ⟨_, rfl⟩
          have hI20 : (J : Int) + (n2 : Int) = (I2 : Int) := by have := hI2.out; have := hJ.out; omega
          have hI21 : (I1 : Int) + 1 + (n2 : Int) = (I2 : Int) := by have := hI2.out; have := hJ.out; omega
          have hI22 : (I1 : Int) + (1 + (n2 : Int)) = (I2 : Int) := by have := hI2.out; have := hJ.out; omega
          have hI2l : I2 ≤ s.size := by have := hI2.out; have := hJ.out; omega
          have hI2g : (J : Int) ≤ (I2 : Int) := by have := hI2.out; have := hJ.out; omega
          by_cases hinI2 : I2 < s.size
          · have hinII2 : (I2 : Int) < (s.size : Int) := by omega
            have hatI2 := at_list hl.out I2 (by omega)
            have hatHI2 : Hid (l[I2]? = some s[I2]) := hatI2
            clear hatI2
            by_cases hqI2 : s[I2] = 101
            · have hqII2 : ((s[I2].toNat : Int) == 101) = true := by rw [u8_eqb _ 101 101 rfl]; exact decide_eq_true hqI2
              have hqHI2 : Hid (s[I2] = 101) := hqI2
              clear hqI2
              have hn2l : n2 ≤ 400 := by omega
              obtain ⟨I12, hI12⟩ : ∃ i : Nat, Hid (i = I2 + 1) := ⟨_, rfl⟩
              have hI120 : (I2 : Int) + 1 = (I12 : Int) := by have := hI12.out; omega
              have hI12l : I12 ≤ s.size := by have := hI12.out; omega
              have hI12g : (I2 : Int) ≤ (I12 : Int) := by have := hI12.out; omega
              by_cases hinI12 : I12 < s.size
              · have hinII12 : (I12 : Int) < (s.size : Int) := by omega
                have hatI12 := at_list hl.out I12 (by omega)
                have hatHI12 : Hid (l[I12]? = some s[I12]) := hatI12
                clear hatI12
                by_cases hqI12 : s[I12] = 45
                · have hqII12 : ((s[I12].toNat : Int) == 45) = true := by rw [u8_eqb _ 45 45 rfl]; exact decide_eq_true hqI12
                  have hqHI12 : Hid (s[I12] = 45) := hqI12
                  clear hqI12
                  obtain ⟨I13, hI13⟩ : ∃ i : Nat, Hid (i = I12 + 1) := ⟨_, rfl⟩
                  have hI130 : (I12 : Int) + 1 = (I13 : Int) := by have := hI13.out; omega
                  have hI13l : I13 ≤ s.size := by have := hI13.out; omega
                  have hI13g : (I12 : Int) ≤ (I13 : Int) := by have := hI13.out; omega
                  have hcutmI13 : Hid (cut1 45 (l.drop (I2 + 1)) = (l.drop I13, true)) := by show _ = _; rw [← hI12.out, cut1_at hatHI12.out, if_pos hqHI12.out, hI13.out]
                  go_wp2_with fail
                  refine (rrun_c s I13 w (by omega) (by omega)).mono ?_
                  rintro e w' ⟨rfl, rfl⟩
                  obtain ⟨n22, hn22⟩ : ∃ n, Hid (Dg.rl (l.drop I13) = n) := ⟨_, rfl⟩
                  rw [hl.out, hn22.out]
                  have hb22 := run_len hl.out hn22.out (by omega)
                  by_cases hz22 : n22 = 0
                  · subst hz22
                    have hres : Hid (pr3 l = none) := (q_dot hl4.out hcut.out hn1.out hz1 hI1.out hcutd.out hn2'.out hz2 hI2.out).trans (q_e0 (by rw [← hqHI2.out]; exact hatHI2.out) hcutmI13.out hn22.out)
                    go_wp2
                    go_ret2
                    exact ⟨_, rfl, .inl ⟨hres.out, rfl⟩, Below.refl _ _⟩
                  · have hzI22 : ((n22 : Int) == 0) = false := beq_eq_false_iff_ne.2 (by omega)
                    obtain ⟨I22, hI22⟩ : ∃ i : Nat, Hid (i = I13 + n22) := ⟨_, rfl⟩
                    have hI220 : (I13 : Int) + (n22 : Int) = (I22 : Int) := by have := hI22.out; omega
                    have hI22l : I22 ≤ s.size := by have := hI22.out; omega
                    have hI22g : (I13 : Int) ≤ (I22 : Int) := by have := hI22.out; omega
                    by_cases hinI22 : I22 < s.size
                    · have hinII22 : (I22 : Int) < (s.size : Int) := by omega
                      obtain ⟨N, hN⟩ : ∃ N : Nat, Hid (N = exg ((l.drop I13).take n22)) := ⟨_, rfl⟩
                      have hNl : N ≤ 100000 := by rw [hN.out]; exact exg_le _
                      go_wp2_with fail
                      refine (rnum_x _ ((l.drop I13).take n22) w (ex_take hl.out hI22.out) (Nat.le_trans (take_len _ _) (by have := hl4.out; omega)) (take_dig hn22.out)).mono ?_
                      rintro e w' ⟨rfl, rfl⟩
                      rw [← hN.out]
                      have hoII22 : ((I22 : Int) == (s.size : Int)) = false := beq_eq_false_iff_ne.2 (by omega)
                      have hoNI22 : ((I22 : Int) != (s.size : Int)) = true := by simp [bne, hoII22]
                      have hres : Hid (pr3 l = none) := (q_dot hl4.out hcut.out hn1.out hz1 hI1.out hcutd.out hn2'.out hz2 hI2.out).trans (q_eb (by rw [← hqHI2.out]; exact hatHI2.out) hcutmI13.out hn22.out hz22 (by have := hlen.out; have := hI22.out; omega))
                      go_wp2
                      go_ret2
                      exact ⟨_, rfl, .inl ⟨hres.out, rfl⟩, Below.refl _ _⟩
                    · have hinII22 : ¬ ((I22 : Int) < (s.size : Int)) := by omega
                      have hoII22 : ((I22 : Int) == (s.size : Int)) = true := beq_iff_eq.2 (by omega)
                      have hoNI22 : ((I22 : Int) != (s.size : Int)) = false := by simp [bne, hoII22]
                      obtain ⟨N, hN⟩ : ∃ N : Nat, Hid (N = exg ((l.drop I13).take n22)) := ⟨_, rfl⟩
                      have hNl : N ≤ 100000 := by rw [hN.out]; exact exg_le _
                      have hxbd : Hid (N ≤ 100000) := hNl
                      go_wp2_with fail
                      refine (rnum_x _ ((l.drop I13).take n22) w (ex_take hl.out hI22.out) (Nat.le_trans (take_len _ _) (by have := hl4.out; omega)) (take_dig hn22.out)).mono ?_
                      rintro e w' ⟨rfl, rfl⟩
                      rw [← hN.out]
                      have hres : Hid (pr3 l = some (false, (l.drop 0).take I1 ++ (l.drop (I1 + 1)).take n2, -((N : Nat) : Int) - ((n2 : Nat) : Int))) := by have h := q_dot hl4.out hcut.out hn1.out hz1 hI1.out hcutd.out hn2'.out hz2 hI2.out; have h2 := q_eok (mi := false) (acc := (l.drop 0).take I1 ++ (l.drop (I1 + 1)).take n2) (k := n2) (by rw [← hqHI2.out]; exact hatHI2.out) hcutmI13.out hn22.out hz22 (by have := hlen.out; have := hI22.out; omega); rw [← hN.out] at h2; exact h.trans h2
                      have hxb : Hid (-1000000 ≤ -((N : Nat) : Int) - ((n2 : Nat) : Int) ∧ -((N : Nat) : Int) - ((n2 : Nat) : Int) ≤ 1000000) := by have := hxbd.out; show _ ∧ _; omega
                      go_wp2_with fail
                      refine (rread_x _ _ ((l.drop 0).take I1 ++ (l.drop (I1 + 1)).take n2) (-((N : Nat) : Int) - ((n2 : Nat) : Int)) _ w (by omega) (by rw [ap_list, ex_take hl.out hI1.out, ex_take hl.out (show I2 = J + n2 by have := hI2.out; have := hJ.out; omega), hJ.out]) (by rw [List.length_append]; have h8 := List.length_take_le I1 (l.drop 0); have h9 := List.length_take_le n2 (l.drop (I1 + 1)); have := hI1.out; have := hI2.out; omega) rfl (fun b hb => by rcases List.mem_append.1 hb with h9 | h9; exact take_dig hn1.out b h9; exact take_dig hn2'.out b h9) hxb.out.1 hxb.out.2).mono ?_
                      rintro e w1 ⟨v, rfl, ⟨b, sv, o, rfl, hsp, ho, hbs⟩, hb1⟩
                      have hspH : Hid (Rd.Sp (Dg.dv ((l.drop 0).take I1 ++ (l.drop (I1 + 1)).take n2)) (-((N : Nat) : Int) - ((n2 : Nat) : Int)) sv) := hsp
                      have hb1H : Hid (Below w.heap.size w w1) := hb1
                      cases o with
                      | true =>
                        have hov : Hid (Rd.inf ≤ sv) := ho.1 rfl
                        clear hsp hb1 ho hbs hxb
                        go_wp2
                        go_ret2
                        exact ⟨_, rfl, .inr ⟨_, _, _, _, hres.out, hspH.out, .inl ⟨hov.out, rfl⟩⟩, hb1H.out⟩
                      | false =>
                        have hbl : sv < Rd.inf := by
                          apply Nat.lt_of_not_le
                          intro h9
                          have := ho.2 h9
                          cases this
                        have hbe := hbs rfl
                        subst hbe
                        have hor := or_non b hbl
                        have hbH : Hid (b < Rd.inf) := hbl
                        clear hsp hb1 ho hbs hxb hbl
                        go_wp2_with fail
                        have hnf : Hid (Calls Tryz.prog 6 #[.int .u64 ((b : Nat) : Int)] w1 fun e w' => e = .returned (.float .f64 (b + sg false)) ∧ w1 = w') := by
                          have h := natFloat_c (b + sg false) w1 (by have := hbH.out; unfold Rd.inf at this; unfold sg; simp; omega)
                          rw [bt_fin3 b false hbH.out] at h
                          exact h
                        refine hnf.out.mono ?_
                        rintro e w' ⟨rfl, rfl⟩
                        clear hnf hor
                        go_wp2
                        go_ret2
                        exact ⟨_, rfl, .inr ⟨_, _, _, _, hres.out, hspH.out, .inr ⟨hbH.out, rfl⟩⟩, hb1H.out⟩
                · have hqII12 : ((s[I12].toNat : Int) == 45) = false := by rw [u8_eqb _ 45 45 rfl]; exact decide_eq_false hqI12
                  have hqHI12 : Hid (s[I12] ≠ 45) := hqI12
                  clear hqI12
                  have hcutmI12 : Hid (cut1 45 (l.drop (I2 + 1)) = (l.drop I12, false)) := by show _ = _; rw [← hI12.out, cut1_at hatHI12.out, if_neg hqHI12.out]
                  go_wp2_with fail
                  refine (rrun_c s I12 w (by omega) (by omega)).mono ?_
                  rintro e w' ⟨rfl, rfl⟩
                  obtain ⟨n22, hn22⟩ : ∃ n, Hid (Dg.rl (l.drop I12) = n) := ⟨_, rfl⟩
                  rw [hl.out, hn22.out]
                  have hb22 := run_len hl.out hn22.out (by omega)
                  by_cases hz22 : n22 = 0
                  · subst hz22
                    have hres : Hid (pr3 l = none) := (q_dot hl4.out hcut.out hn1.out hz1 hI1.out hcutd.out hn2'.out hz2 hI2.out).trans (q_e0 (by rw [← hqHI2.out]; exact hatHI2.out) hcutmI12.out hn22.out)
                    go_wp2
                    go_ret2
                    exact ⟨_, rfl, .inl ⟨hres.out, rfl⟩, Below.refl _ _⟩
                  · have hzI22 : ((n22 : Int) == 0) = false := beq_eq_false_iff_ne.2 (by omega)
                    obtain ⟨I22, hI22⟩ : ∃ i : Nat, Hid (i = I12 + n22) := ⟨_, rfl⟩
                    have hI220 : (I12 : Int) + (n22 : Int) = (I22 : Int) := by have := hI22.out; omega
                    have hI22l : I22 ≤ s.size := by have := hI22.out; omega
                    have hI22g : (I12 : Int) ≤ (I22 : Int) := by have := hI22.out; omega
                    by_cases hinI22 : I22 < s.size
                    · have hinII22 : (I22 : Int) < (s.size : Int) := by omega
                      obtain ⟨N, hN⟩ : ∃ N : Nat, Hid (N = exg ((l.drop I12).take n22)) := ⟨_, rfl⟩
                      have hNl : N ≤ 100000 := by rw [hN.out]; exact exg_le _
                      go_wp2_with fail
                      refine (rnum_x _ ((l.drop I12).take n22) w (ex_take hl.out hI22.out) (Nat.le_trans (take_len _ _) (by have := hl4.out; omega)) (take_dig hn22.out)).mono ?_
                      rintro e w' ⟨rfl, rfl⟩
                      rw [← hN.out]
                      have hoII22 : ((I22 : Int) == (s.size : Int)) = false := beq_eq_false_iff_ne.2 (by omega)
                      have hoNI22 : ((I22 : Int) != (s.size : Int)) = true := by simp [bne, hoII22]
                      have hres : Hid (pr3 l = none) := (q_dot hl4.out hcut.out hn1.out hz1 hI1.out hcutd.out hn2'.out hz2 hI2.out).trans (q_eb (by rw [← hqHI2.out]; exact hatHI2.out) hcutmI12.out hn22.out hz22 (by have := hlen.out; have := hI22.out; omega))
                      go_wp2
                      go_ret2
                      exact ⟨_, rfl, .inl ⟨hres.out, rfl⟩, Below.refl _ _⟩
                    · have hinII22 : ¬ ((I22 : Int) < (s.size : Int)) := by omega
                      have hoII22 : ((I22 : Int) == (s.size : Int)) = true := beq_iff_eq.2 (by omega)
                      have hoNI22 : ((I22 : Int) != (s.size : Int)) = false := by simp [bne, hoII22]
                      obtain ⟨N, hN⟩ : ∃ N : Nat, Hid (N = exg ((l.drop I12).take n22)) := ⟨_, rfl⟩
                      have hNl : N ≤ 100000 := by rw [hN.out]; exact exg_le _
                      have hxbd : Hid (N ≤ 100000) := hNl
                      go_wp2_with fail
                      refine (rnum_x _ ((l.drop I12).take n22) w (ex_take hl.out hI22.out) (Nat.le_trans (take_len _ _) (by have := hl4.out; omega)) (take_dig hn22.out)).mono ?_
                      rintro e w' ⟨rfl, rfl⟩
                      rw [← hN.out]
                      have hres : Hid (pr3 l = some (false, (l.drop 0).take I1 ++ (l.drop (I1 + 1)).take n2, ((N : Nat) : Int) - ((n2 : Nat) : Int))) := by have h := q_dot hl4.out hcut.out hn1.out hz1 hI1.out hcutd.out hn2'.out hz2 hI2.out; have h2 := q_eok (mi := false) (acc := (l.drop 0).take I1 ++ (l.drop (I1 + 1)).take n2) (k := n2) (by rw [← hqHI2.out]; exact hatHI2.out) hcutmI12.out hn22.out hz22 (by have := hlen.out; have := hI22.out; omega); rw [← hN.out] at h2; exact h.trans h2
                      have hxb : Hid (-1000000 ≤ ((N : Nat) : Int) - ((n2 : Nat) : Int) ∧ ((N : Nat) : Int) - ((n2 : Nat) : Int) ≤ 1000000) := by have := hxbd.out; show _ ∧ _; omega
                      go_wp2_with fail
                      refine (rread_x _ _ ((l.drop 0).take I1 ++ (l.drop (I1 + 1)).take n2) (((N : Nat) : Int) - ((n2 : Nat) : Int)) _ w (by omega) (by rw [ap_list, ex_take hl.out hI1.out, ex_take hl.out (show I2 = J + n2 by have := hI2.out; have := hJ.out; omega), hJ.out]) (by rw [List.length_append]; have h8 := List.length_take_le I1 (l.drop 0); have h9 := List.length_take_le n2 (l.drop (I1 + 1)); have := hI1.out; have := hI2.out; omega) rfl (fun b hb => by rcases List.mem_append.1 hb with h9 | h9; exact take_dig hn1.out b h9; exact take_dig hn2'.out b h9) hxb.out.1 hxb.out.2).mono ?_
                      rintro e w1 ⟨v, rfl, ⟨b, sv, o, rfl, hsp, ho, hbs⟩, hb1⟩
                      have hspH : Hid (Rd.Sp (Dg.dv ((l.drop 0).take I1 ++ (l.drop (I1 + 1)).take n2)) (((N : Nat) : Int) - ((n2 : Nat) : Int)) sv) := hsp
                      have hb1H : Hid (Below w.heap.size w w1) := hb1
                      cases o with
                      | true =>
                        have hov : Hid (Rd.inf ≤ sv) := ho.1 rfl
                        clear hsp hb1 ho hbs hxb
                        go_wp2
                        go_ret2
                        exact ⟨_, rfl, .inr ⟨_, _, _, _, hres.out, hspH.out, .inl ⟨hov.out, rfl⟩⟩, hb1H.out⟩
                      | false =>
                        have hbl : sv < Rd.inf := by
                          apply Nat.lt_of_not_le
                          intro h9
                          have := ho.2 h9
                          cases this
                        have hbe := hbs rfl
                        subst hbe
                        have hor := or_non b hbl
                        have hbH : Hid (b < Rd.inf) := hbl
                        clear hsp hb1 ho hbs hxb hbl
                        go_wp2_with fail
                        have hnf : Hid (Calls Tryz.prog 6 #[.int .u64 ((b : Nat) : Int)] w1 fun e w' => e = .returned (.float .f64 (b + sg false)) ∧ w1 = w') := by
                          have h := natFloat_c (b + sg false) w1 (by have := hbH.out; unfold Rd.inf at this; unfold sg; simp; omega)
                          rw [bt_fin3 b false hbH.out] at h
                          exact h
                        refine hnf.out.mono ?_
                        rintro e w' ⟨rfl, rfl⟩
                        clear hnf hor
                        go_wp2
                        go_ret2
                        exact ⟨_, rfl, .inr ⟨_, _, _, _, hres.out, hspH.out, .inr ⟨hbH.out, rfl⟩⟩, hb1H.out⟩
              · have hinII12 : ¬ ((I12 : Int) < (s.size : Int)) := by omega
                have hoII12 : ((I12 : Int) == (s.size : Int)) = true := beq_iff_eq.2 (by omega)
                have hoNI12 : ((I12 : Int) != (s.size : Int)) = false := by simp [bne, hoII12]
                have hcutmI12 : Hid (cut1 45 (l.drop (I2 + 1)) = (l.drop I12, false)) := by show _ = _; rw [← hI12.out, List.drop_of_length_le (by have := hlen.out; omega)]; rfl
                go_wp2_with fail
                refine (rrun_c s I12 w (by omega) (by omega)).mono ?_
                rintro e w' ⟨rfl, rfl⟩
                have hn99 : Hid (Dg.rl (l.drop I12) = 0) := by show _ = _; rw [List.drop_of_length_le (by have := hlen.out; omega)]; rfl
                rw [hl.out, hn99.out]
                have hres : Hid (pr3 l = none) := (q_dot hl4.out hcut.out hn1.out hz1 hI1.out hcutd.out hn2'.out hz2 hI2.out).trans (q_e0 (by rw [← hqHI2.out]; exact hatHI2.out) hcutmI12.out hn99.out)
                go_wp2
                go_ret2
                exact ⟨_, rfl, .inl ⟨hres.out, rfl⟩, Below.refl _ _⟩
            · have hqII2 : ((s[I2].toNat : Int) == 101) = false := by rw [u8_eqb _ 101 101 rfl]; exact decide_eq_false hqI2
              have hqHI2 : Hid (s[I2] ≠ 101) := hqI2
              clear hqI2
              have hoII2 : ((I2 : Int) == (s.size : Int)) = false := beq_eq_false_iff_ne.2 (by omega)
              have hoNI2 : ((I2 : Int) != (s.size : Int)) = true := by simp [bne, hoII2]
              have hres : Hid (pr3 l = none) := (q_dot hl4.out hcut.out hn1.out hz1 hI1.out hcutd.out hn2'.out hz2 hI2.out).trans (q_note hatHI2.out hqHI2.out)
              go_wp2
              go_ret2
              exact ⟨_, rfl, .inl ⟨hres.out, rfl⟩, Below.refl _ _⟩
          · have hinII2 : ¬ ((I2 : Int) < (s.size : Int)) := by omega
            have hoII2 : ((I2 : Int) == (s.size : Int)) = true := beq_iff_eq.2 (by omega)
            have hoNI2 : ((I2 : Int) != (s.size : Int)) = false := by simp [bne, hoII2]
            have hn2l : n2 ≤ 400 := by omega
            have hxbd : Hid (n2 ≤ 400) := hn2l
            have hres : Hid (pr3 l = some (false, (l.drop 0).take I1 ++ (l.drop (I1 + 1)).take n2, -((n2 : Nat) : Int))) := (q_dot hl4.out hcut.out hn1.out hz1 hI1.out hcutd.out hn2'.out hz2 hI2.out).trans (q_end (by have := hlen.out; omega))
            have hxb : Hid (-1000000 ≤ -((n2 : Nat) : Int) ∧ -((n2 : Nat) : Int) ≤ 1000000) := by have := hxbd.out; show _ ∧ _; omega
            go_wp2_with fail
            refine (rread_x _ _ ((l.drop 0).take I1 ++ (l.drop (I1 + 1)).take n2) (-((n2 : Nat) : Int)) _ w (by first | rfl | omega) (by rw [ap_list, ex_take hl.out hI1.out, ex_take hl.out (show I2 = J + n2 by have := hI2.out; have := hJ.out; omega), hJ.out]) (by rw [List.length_append]; have h8 := List.length_take_le I1 (l.drop 0); have h9 := List.length_take_le n2 (l.drop (I1 + 1)); have := hI1.out; have := hI2.out; omega) rfl (fun b hb => by rcases List.mem_append.1 hb with h9 | h9; exact take_dig hn1.out b h9; exact take_dig hn2'.out b h9) hxb.out.1 hxb.out.2).mono ?_
            rintro e w1 ⟨v, rfl, ⟨b, sv, o, rfl, hsp, ho, hbs⟩, hb1⟩
            have hspH : Hid (Rd.Sp (Dg.dv ((l.drop 0).take I1 ++ (l.drop (I1 + 1)).take n2)) (-((n2 : Nat) : Int)) sv) := hsp
            have hb1H : Hid (Below w.heap.size w w1) := hb1
            cases o with
            | true =>
              have hov : Hid (Rd.inf ≤ sv) := ho.1 rfl
              clear hsp hb1 ho hbs hxb
              go_wp2
              go_ret2
              exact ⟨_, rfl, .inr ⟨_, _, _, _, hres.out, hspH.out, .inl ⟨hov.out, rfl⟩⟩, hb1H.out⟩
            | false =>
              have hbl : sv < Rd.inf := by
                apply Nat.lt_of_not_le
                intro h9
                have := ho.2 h9
                cases this
              have hbe := hbs rfl
              subst hbe
              have hor := or_non b hbl
              have hbH : Hid (b < Rd.inf) := hbl
              clear hsp hb1 ho hbs hxb hbl
              go_wp2_with fail
              have hnf : Hid (Calls Tryz.prog 6 #[.int .u64 ((b : Nat) : Int)] w1 fun e w' => e = .returned (.float .f64 (b + sg false)) ∧ w1 = w') := by
                have h := natFloat_c (b + sg false) w1 (by have := hbH.out; unfold Rd.inf at this; unfold sg; simp; omega)
                rw [bt_fin3 b false hbH.out] at h
                exact h
              refine hnf.out.mono ?_
              rintro e w' ⟨rfl, rfl⟩
              clear hnf hor
              go_wp2
              go_ret2
              exact ⟨_, rfl, .inr ⟨_, _, _, _, hres.out, hspH.out, .inr ⟨hbH.out, rfl⟩⟩, hb1H.out⟩
      · have hqII1 : ((s[I1].toNat : Int) == 46) = false := by rw [u8_eqb _ 46 46 rfl]; exact decide_eq_false hqI1
        have hqHI1 : Hid (s[I1] ≠ 46) := hqI1
        clear hqI1
        have hcutd : Hid (cut1 46 (l.drop I1) = (l.drop I1, false)) := by show _ = _; rw [cut1_at hatHI1.out, if_neg hqHI1.out]
        have hdotI := hqII1
        have hdotH := hqHI1
        clear hqII1 hqHI1
        by_cases hqI1 : s[I1] = 101
        · have hqII1 : ((s[I1].toNat : Int) == 101) = true := by rw [u8_eqb _ 101 101 rfl]; exact decide_eq_true hqI1
          have hqHI1 : Hid (s[I1] = 101) := hqI1
          clear hqI1
          obtain ⟨I11, hI11⟩ : ∃ i : Nat, Hid (i = I1 + 1) := ⟨_, rfl⟩
          have hI110 : (I1 : Int) + 1 = (I11 : Int) := by have := hI11.out; omega
          have hI11l : I11 ≤ s.size := by have := hI11.out; omega
          have hI11g : (I1 : Int) ≤ (I11 : Int) := by have := hI11.out; omega
          by_cases hinI11 : I11 < s.size
          · have hinII11 : (I11 : Int) < (s.size : Int) := by omega
            have hatI11 := at_list hl.out I11 (by omega)
            have hatHI11 : Hid (l[I11]? = some s[I11]) := hatI11
            clear hatI11
            by_cases hqI11 : s[I11] = 45
            · have hqII11 : ((s[I11].toNat : Int) == 45) = true := by rw [u8_eqb _ 45 45 rfl]; exact decide_eq_true hqI11
              have hqHI11 : Hid (s[I11] = 45) := hqI11
              clear hqI11
              obtain ⟨I12, hI12⟩ : ∃ i : Nat, Hid (i = I11 + 1) := ⟨_, rfl⟩
              have hI120 : (I11 : Int) + 1 = (I12 : Int) := by have := hI12.out; omega
              have hI12l : I12 ≤ s.size := by have := hI12.out; omega
              have hI12g : (I11 : Int) ≤ (I12 : Int) := by have := hI12.out; omega
              have hcutmI12 : Hid (cut1 45 (l.drop (I1 + 1)) = (l.drop I12, true)) := by show _ = _; rw [← hI11.out, cut1_at hatHI11.out, if_pos hqHI11.out, hI12.out]
              go_wp2_with fail
              refine (rrun_c s I12 w (by omega) (by omega)).mono ?_
              rintro e w' ⟨rfl, rfl⟩
              obtain ⟨n21, hn21⟩ : ∃ n, Hid (Dg.rl (l.drop I12) = n) := ⟨_, rfl⟩
              rw [hl.out, hn21.out]
              have hb21 := run_len hl.out hn21.out (by omega)
              by_cases hz21 : n21 = 0
              · subst hz21
                have hres : Hid (pr3 l = none) := (q_plain hl4.out hcut.out hn1.out hz1 hI1.out hcutd.out).trans (q_e0 (by rw [← hqHI1.out]; exact hatHI1.out) hcutmI12.out hn21.out)
                go_wp2
                go_ret2
                exact ⟨_, rfl, .inl ⟨hres.out, rfl⟩, Below.refl _ _⟩
              · have hzI21 : ((n21 : Int) == 0) = false := beq_eq_false_iff_ne.2 (by omega)
                obtain ⟨I21, hI21⟩ : ∃ i : Nat, Hid (i = I12 + n21) := ⟨_, rfl⟩
                have hI210 : (I12 : Int) + (n21 : Int) = (I21 : Int) := by have := hI21.out; omega
                have hI21l : I21 ≤ s.size := by have := hI21.out; omega
                have hI21g : (I12 : Int) ≤ (I21 : Int) := by have := hI21.out; omega
                by_cases hinI21 : I21 < s.size
                · have hinII21 : (I21 : Int) < (s.size : Int) := by omega
                  obtain ⟨N, hN⟩ : ∃ N : Nat, Hid (N = exg ((l.drop I12).take n21)) := ⟨_, rfl⟩
                  have hNl : N ≤ 100000 := by rw [hN.out]; exact exg_le _
                  go_wp2_with fail
                  refine (rnum_x _ ((l.drop I12).take n21) w (ex_take hl.out hI21.out) (Nat.le_trans (take_len _ _) (by have := hl4.out; omega)) (take_dig hn21.out)).mono ?_
                  rintro e w' ⟨rfl, rfl⟩
                  rw [← hN.out]
                  have hoII21 : ((I21 : Int) == (s.size : Int)) = false := beq_eq_false_iff_ne.2 (by omega)
                  have hoNI21 : ((I21 : Int) != (s.size : Int)) = true := by simp [bne, hoII21]
                  have hres : Hid (pr3 l = none) := (q_plain hl4.out hcut.out hn1.out hz1 hI1.out hcutd.out).trans (q_eb (by rw [← hqHI1.out]; exact hatHI1.out) hcutmI12.out hn21.out hz21 (by have := hlen.out; have := hI21.out; omega))
                  go_wp2
                  go_ret2
                  exact ⟨_, rfl, .inl ⟨hres.out, rfl⟩, Below.refl _ _⟩
                · have hinII21 : ¬ ((I21 : Int) < (s.size : Int)) := by omega
                  have hoII21 : ((I21 : Int) == (s.size : Int)) = true := beq_iff_eq.2 (by omega)
                  have hoNI21 : ((I21 : Int) != (s.size : Int)) = false := by simp [bne, hoII21]
                  obtain ⟨N, hN⟩ : ∃ N : Nat, Hid (N = exg ((l.drop I12).take n21)) := ⟨_, rfl⟩
                  have hNl : N ≤ 100000 := by rw [hN.out]; exact exg_le _
                  have hxbd : Hid (N ≤ 100000) := hNl
                  go_wp2_with fail
                  refine (rnum_x _ ((l.drop I12).take n21) w (ex_take hl.out hI21.out) (Nat.le_trans (take_len _ _) (by have := hl4.out; omega)) (take_dig hn21.out)).mono ?_
                  rintro e w' ⟨rfl, rfl⟩
                  rw [← hN.out]
                  have hres : Hid (pr3 l = some (false, (l.drop 0).take I1, -((N : Nat) : Int) - ((0 : Nat) : Int))) := by have h := q_plain hl4.out hcut.out hn1.out hz1 hI1.out hcutd.out; have h2 := q_eok (mi := false) (acc := (l.drop 0).take I1) (k := 0) (by rw [← hqHI1.out]; exact hatHI1.out) hcutmI12.out hn21.out hz21 (by have := hlen.out; have := hI21.out; omega); rw [← hN.out] at h2; exact h.trans h2
                  have hxb : Hid (-1000000 ≤ -((N : Nat) : Int) - ((0 : Nat) : Int) ∧ -((N : Nat) : Int) - ((0 : Nat) : Int) ≤ 1000000) := by have := hxbd.out; show _ ∧ _; omega
                  go_wp2_with fail
                  refine (rread_x _ _ ((l.drop 0).take I1) (-((N : Nat) : Int) - ((0 : Nat) : Int)) _ w (by omega) (ex_take hl.out hI1.out) (Nat.le_trans (take_len _ _) (by have := hl4.out; omega)) rfl (take_dig hn1.out) hxb.out.1 hxb.out.2).mono ?_
                  rintro e w1 ⟨v, rfl, ⟨b, sv, o, rfl, hsp, ho, hbs⟩, hb1⟩
                  have hspH : Hid (Rd.Sp (Dg.dv ((l.drop 0).take I1)) (-((N : Nat) : Int) - ((0 : Nat) : Int)) sv) := hsp
                  have hb1H : Hid (Below w.heap.size w w1) := hb1
                  cases o with
                  | true =>
                    have hov : Hid (Rd.inf ≤ sv) := ho.1 rfl
                    clear hsp hb1 ho hbs hxb
                    go_wp2
                    go_ret2
                    exact ⟨_, rfl, .inr ⟨_, _, _, _, hres.out, hspH.out, .inl ⟨hov.out, rfl⟩⟩, hb1H.out⟩
                  | false =>
                    have hbl : sv < Rd.inf := by
                      apply Nat.lt_of_not_le
                      intro h9
                      have := ho.2 h9
                      cases this
                    have hbe := hbs rfl
                    subst hbe
                    have hor := or_non b hbl
                    have hbH : Hid (b < Rd.inf) := hbl
                    clear hsp hb1 ho hbs hxb hbl
                    go_wp2_with fail
                    have hnf : Hid (Calls Tryz.prog 6 #[.int .u64 ((b : Nat) : Int)] w1 fun e w' => e = .returned (.float .f64 (b + sg false)) ∧ w1 = w') := by
                      have h := natFloat_c (b + sg false) w1 (by have := hbH.out; unfold Rd.inf at this; unfold sg; simp; omega)
                      rw [bt_fin3 b false hbH.out] at h
                      exact h
                    refine hnf.out.mono ?_
                    rintro e w' ⟨rfl, rfl⟩
                    clear hnf hor
                    go_wp2
                    go_ret2
                    exact ⟨_, rfl, .inr ⟨_, _, _, _, hres.out, hspH.out, .inr ⟨hbH.out, rfl⟩⟩, hb1H.out⟩
            · have hqII11 : ((s[I11].toNat : Int) == 45) = false := by rw [u8_eqb _ 45 45 rfl]; exact decide_eq_false hqI11
              have hqHI11 : Hid (s[I11] ≠ 45) := hqI11
              clear hqI11
              have hcutmI11 : Hid (cut1 45 (l.drop (I1 + 1)) = (l.drop I11, false)) := by show _ = _; rw [← hI11.out, cut1_at hatHI11.out, if_neg hqHI11.out]
              go_wp2_with fail
              refine (rrun_c s I11 w (by omega) (by omega)).mono ?_
              rintro e w' ⟨rfl, rfl⟩
              obtain ⟨n21, hn21⟩ : ∃ n, Hid (Dg.rl (l.drop I11) = n) := ⟨_, rfl⟩
              rw [hl.out, hn21.out]
              have hb21 := run_len hl.out hn21.out (by omega)
              by_cases hz21 : n21 = 0
              · subst hz21
                have hres : Hid (pr3 l = none) := (q_plain hl4.out hcut.out hn1.out hz1 hI1.out hcutd.out).trans (q_e0 (by rw [← hqHI1.out]; exact hatHI1.out) hcutmI11.out hn21.out)
                go_wp2
                go_ret2
                exact ⟨_, rfl, .inl ⟨hres.out, rfl⟩, Below.refl _ _⟩
              · have hzI21 : ((n21 : Int) == 0) = false := beq_eq_false_iff_ne.2 (by omega)
                obtain ⟨I21, hI21⟩ : ∃ i : Nat, Hid (i = I11 + n21) := ⟨_, rfl⟩
                have hI210 : (I11 : Int) + (n21 : Int) = (I21 : Int) := by have := hI21.out; omega
                have hI21l : I21 ≤ s.size := by have := hI21.out; omega
                have hI21g : (I11 : Int) ≤ (I21 : Int) := by have := hI21.out; omega
                by_cases hinI21 : I21 < s.size
                · have hinII21 : (I21 : Int) < (s.size : Int) := by omega
                  obtain ⟨N, hN⟩ : ∃ N : Nat, Hid (N = exg ((l.drop I11).take n21)) := ⟨_, rfl⟩
                  have hNl : N ≤ 100000 := by rw [hN.out]; exact exg_le _
                  go_wp2_with fail
                  refine (rnum_x _ ((l.drop I11).take n21) w (ex_take hl.out hI21.out) (Nat.le_trans (take_len _ _) (by have := hl4.out; omega)) (take_dig hn21.out)).mono ?_
                  rintro e w' ⟨rfl, rfl⟩
                  rw [← hN.out]
                  have hoII21 : ((I21 : Int) == (s.size : Int)) = false := beq_eq_false_iff_ne.2 (by omega)
                  have hoNI21 : ((I21 : Int) != (s.size : Int)) = true := by simp [bne, hoII21]
                  have hres : Hid (pr3 l = none) := (q_plain hl4.out hcut.out hn1.out hz1 hI1.out hcutd.out).trans (q_eb (by rw [← hqHI1.out]; exact hatHI1.out) hcutmI11.out hn21.out hz21 (by have := hlen.out; have := hI21.out; omega))
                  go_wp2
                  go_ret2
                  exact ⟨_, rfl, .inl ⟨hres.out, rfl⟩, Below.refl _ _⟩
                · have hinII21 : ¬ ((I21 : Int) < (s.size : Int)) := by omega
                  have hoII21 : ((I21 : Int) == (s.size : Int)) = true := beq_iff_eq.2 (by omega)
                  have hoNI21 : ((I21 : Int) != (s.size : Int)) = false := by simp [bne, hoII21]
                  obtain ⟨N, hN⟩ : ∃ N : Nat, Hid (N = exg ((l.drop I11).take n21)) := ⟨_, rfl⟩
                  have hNl : N ≤ 100000 := by rw [hN.out]; exact exg_le _
                  have hxbd : Hid (N ≤ 100000) := hNl
                  go_wp2_with fail
                  refine (rnum_x _ ((l.drop I11).take n21) w (ex_take hl.out hI21.out) (Nat.le_trans (take_len _ _) (by have := hl4.out; omega)) (take_dig hn21.out)).mono ?_
                  rintro e w' ⟨rfl, rfl⟩
                  rw [← hN.out]
                  have hres : Hid (pr3 l = some (false, (l.drop 0).take I1, ((N : Nat) : Int) - ((0 : Nat) : Int))) := by have h := q_plain hl4.out hcut.out hn1.out hz1 hI1.out hcutd.out; have h2 := q_eok (mi := false) (acc := (l.drop 0).take I1) (k := 0) (by rw [← hqHI1.out]; exact hatHI1.out) hcutmI11.out hn21.out hz21 (by have := hlen.out; have := hI21.out; omega); rw [← hN.out] at h2; exact h.trans h2
                  have hxb : Hid (-1000000 ≤ ((N : Nat) : Int) - ((0 : Nat) : Int) ∧ ((N : Nat) : Int) - ((0 : Nat) : Int) ≤ 1000000) := by have := hxbd.out; show _ ∧ _; omega
                  go_wp2_with fail
                  refine (rread_x _ _ ((l.drop 0).take I1) (((N : Nat) : Int) - ((0 : Nat) : Int)) _ w (by omega) (ex_take hl.out hI1.out) (Nat.le_trans (take_len _ _) (by have := hl4.out; omega)) rfl (take_dig hn1.out) hxb.out.1 hxb.out.2).mono ?_
                  rintro e w1 ⟨v, rfl, ⟨b, sv, o, rfl, hsp, ho, hbs⟩, hb1⟩
                  have hspH : Hid (Rd.Sp (Dg.dv ((l.drop 0).take I1)) (((N : Nat) : Int) - ((0 : Nat) : Int)) sv) := hsp
                  have hb1H : Hid (Below w.heap.size w w1) := hb1
                  cases o with
                  | true =>
                    have hov : Hid (Rd.inf ≤ sv) := ho.1 rfl
                    clear hsp hb1 ho hbs hxb
                    go_wp2
                    go_ret2
                    exact ⟨_, rfl, .inr ⟨_, _, _, _, hres.out, hspH.out, .inl ⟨hov.out, rfl⟩⟩, hb1H.out⟩
                  | false =>
                    have hbl : sv < Rd.inf := by
                      apply Nat.lt_of_not_le
                      intro h9
                      have := ho.2 h9
                      cases this
                    have hbe := hbs rfl
                    subst hbe
                    have hor := or_non b hbl
                    have hbH : Hid (b < Rd.inf) := hbl
                    clear hsp hb1 ho hbs hxb hbl
                    go_wp2_with fail
                    have hnf : Hid (Calls Tryz.prog 6 #[.int .u64 ((b : Nat) : Int)] w1 fun e w' => e = .returned (.float .f64 (b + sg false)) ∧ w1 = w') := by
                      have h := natFloat_c (b + sg false) w1 (by have := hbH.out; unfold Rd.inf at this; unfold sg; simp; omega)
                      rw [bt_fin3 b false hbH.out] at h
                      exact h
                    refine hnf.out.mono ?_
                    rintro e w' ⟨rfl, rfl⟩
                    clear hnf hor
                    go_wp2
                    go_ret2
                    exact ⟨_, rfl, .inr ⟨_, _, _, _, hres.out, hspH.out, .inr ⟨hbH.out, rfl⟩⟩, hb1H.out⟩
          · have hinII11 : ¬ ((I11 : Int) < (s.size : Int)) := by omega
            have hoII11 : ((I11 : Int) == (s.size : Int)) = true := beq_iff_eq.2 (by omega)
            have hoNI11 : ((I11 : Int) != (s.size : Int)) = false := by simp [bne, hoII11]
            have hcutmI11 : Hid (cut1 45 (l.drop (I1 + 1)) = (l.drop I11, false)) := by show _ = _; rw [← hI11.out, List.drop_of_length_le (by have := hlen.out; omega)]; rfl
            go_wp2_with fail
            refine (rrun_c s I11 w (by omega) (by omega)).mono ?_
            rintro e w' ⟨rfl, rfl⟩
            have hn99 : Hid (Dg.rl (l.drop I11) = 0) := by show _ = _; rw [List.drop_of_length_le (by have := hlen.out; omega)]; rfl
            rw [hl.out, hn99.out]
            have hres : Hid (pr3 l = none) := (q_plain hl4.out hcut.out hn1.out hz1 hI1.out hcutd.out).trans (q_e0 (by rw [← hqHI1.out]; exact hatHI1.out) hcutmI11.out hn99.out)
            go_wp2
            go_ret2
            exact ⟨_, rfl, .inl ⟨hres.out, rfl⟩, Below.refl _ _⟩
        · have hqII1 : ((s[I1].toNat : Int) == 101) = false := by rw [u8_eqb _ 101 101 rfl]; exact decide_eq_false hqI1
          have hqHI1 : Hid (s[I1] ≠ 101) := hqI1
          clear hqI1
          have hoII1 : ((I1 : Int) == (s.size : Int)) = false := beq_eq_false_iff_ne.2 (by omega)
          have hoNI1 : ((I1 : Int) != (s.size : Int)) = true := by simp [bne, hoII1]
          have hres : Hid (pr3 l = none) := (q_plain hl4.out hcut.out hn1.out hz1 hI1.out hcutd.out).trans (q_note hatHI1.out hqHI1.out)
          go_wp2
          go_ret2
          exact ⟨_, rfl, .inl ⟨hres.out, rfl⟩, Below.refl _ _⟩
    · have hinII1 : ¬ ((I1 : Int) < (s.size : Int)) := by omega
      have hoII1 : ((I1 : Int) == (s.size : Int)) = true := beq_iff_eq.2 (by omega)
      have hoNI1 : ((I1 : Int) != (s.size : Int)) = false := by simp [bne, hoII1]
      have hcutd : Hid (cut1 46 (l.drop I1) = (l.drop I1, false)) := by show _ = _; rw [List.drop_of_length_le (by have := hlen.out; omega)]; rfl
      have hxbd : Hid True := trivial
      have hres : Hid (pr3 l = some (false, (l.drop 0).take I1, -((0 : Nat) : Int))) := (q_plain hl4.out hcut.out hn1.out hz1 hI1.out hcutd.out).trans (q_end (by have := hlen.out; omega))
      have hxb : Hid (-1000000 ≤ -((0 : Nat) : Int) ∧ -((0 : Nat) : Int) ≤ 1000000) := by show _ ∧ _; omega
      go_wp2_with fail
      refine (rread_x _ _ ((l.drop 0).take I1) (-((0 : Nat) : Int)) _ w (by first | rfl | omega) (ex_take hl.out hI1.out) (Nat.le_trans (take_len _ _) (by have := hl4.out; omega)) rfl (take_dig hn1.out) hxb.out.1 hxb.out.2).mono ?_
      rintro e w1 ⟨v, rfl, ⟨b, sv, o, rfl, hsp, ho, hbs⟩, hb1⟩
      have hspH : Hid (Rd.Sp (Dg.dv ((l.drop 0).take I1)) (-((0 : Nat) : Int)) sv) := hsp
      have hb1H : Hid (Below w.heap.size w w1) := hb1
      cases o with
      | true =>
        have hov : Hid (Rd.inf ≤ sv) := ho.1 rfl
        clear hsp hb1 ho hbs hxb
        go_wp2
        go_ret2
        exact ⟨_, rfl, .inr ⟨_, _, _, _, hres.out, hspH.out, .inl ⟨hov.out, rfl⟩⟩, hb1H.out⟩
      | false =>
        have hbl : sv < Rd.inf := by
          apply Nat.lt_of_not_le
          intro h9
          have := ho.2 h9
          cases this
        have hbe := hbs rfl
        subst hbe
        have hor := or_non b hbl
        have hbH : Hid (b < Rd.inf) := hbl
        clear hsp hb1 ho hbs hxb hbl
        go_wp2_with fail
        have hnf : Hid (Calls Tryz.prog 6 #[.int .u64 ((b : Nat) : Int)] w1 fun e w' => e = .returned (.float .f64 (b + sg false)) ∧ w1 = w') := by
          have h := natFloat_c (b + sg false) w1 (by have := hbH.out; unfold Rd.inf at this; unfold sg; simp; omega)
          rw [bt_fin3 b false hbH.out] at h
          exact h
        refine hnf.out.mono ?_
        rintro e w' ⟨rfl, rfl⟩
        clear hnf hor
        go_wp2
        go_ret2
        exact ⟨_, rfl, .inr ⟨_, _, _, _, hres.out, hspH.out, .inr ⟨hbH.out, rfl⟩⟩, hb1H.out⟩
end Go.Proofs.YtbpncapdjolanaaGreatDoor
