/-
  The document's Plain.
-/
import Derived.Test.YtmdnmhbfdceliaaGreatDoorRr7
import Derived.Test.YtmdnmhbfdceliaaGreatDoorRef
namespace Go.Proofs.YtmdnmhbfdceliaaGreatDoor
open Flo Go.RowKit
theorem rz_snoc0 (a : List UInt8) (b : UInt8) (h : b.toNat = 48) : rz (a ++ [b]) = rz a := by
  have e : b = 48 := UInt8.toNat_inj.1 h
  rw [e]
  exact Dg.rz_zeros a 1
theorem rz_snoc1 (a : List UInt8) (b : UInt8) (h : b.toNat ≠ 48) : rz (a ++ [b]) = a ++ [b] := by
  show (Dg.tz (a ++ [b]).reverse).reverse = _
  rw [List.reverse_append]
  show (Dg.tz (b :: a.reverse)).reverse = _
  have : Dg.tz (b :: a.reverse) = b :: a.reverse := by
    show (if b.toNat = 48 then Dg.tz a.reverse else b :: a.reverse) = _
    rw [if_neg h]
  rw [this]
  simp
/-- the digits up to the place i, behind which there are noughts alone -/
def Upz (l : List UInt8) (i : Nat) : Prop := rz l = rz (l.take i)
theorem upz_step {l : List UInt8} {i : Nat} {b : UInt8} (h : Upz l (i + 1)) (hb : l[i]? = some b) (h48 : b.toNat = 48) : Upz l i := by
  unfold Upz at *
  rw [h, Dg.take_snoc hb, rz_snoc0 _ _ h48]
theorem upz_end {l : List UInt8} {i : Nat} {b : UInt8} (h : Upz l (i + 1)) (hb : l[i]? = some b) (h48 : b.toNat ≠ 48) : rz l = l.take (i + 1) := by
  unfold Upz at *
  rw [h, Dg.take_snoc hb, rz_snoc1 _ _ h48]
theorem dd_first {D : Nat} (h0 : 0 < D) {b : UInt8} (hb : (Lib.decDigits D)[0]? = some b) : b.toNat ≠ 48 := by
  have ht := Dg.dd_tz h0
  generalize Lib.decDigits D = l at *
  cases l with
  | nil => simp at hb
  | cons x l =>
    simp at hb
    subst hb
    intro hx
    have h2 : (if x.toNat = 48 then Dg.tz l else x :: l) = x :: l := ht
    rw [if_pos hx] at h2
    have := Dg.tz_len l
    rw [h2] at this
    simp at this
    omega
set_option maxRecDepth 100000 in
set_option maxHeartbeats 4000000 in
theorem r3PlainN_c (x : Nat) (txt : List UInt8) (w : World) (hx : x < 18446744073709551616) (c1 : bt x ≠ 9221120237041090560) (c2 : bt x ≠ 9218868437227405312) (c3 : bt x ≠ 18442240474082181120) (c4 : bt x ≠ 0) (c5 : bt x ≠ 9223372036854775808)
    (E m : Nat) (t : Int) (W L H n : Nat) (X : Bool) (hb : bt x % 9223372036854775808 = E * 4503599627370496 + m) (h0 : 0 < m) (h1 : m < 9007199254740992) (h2 : E = 0 ∨ 4503599627370496 ≤ m) (hv : View E m t W X L H) (hs : Rd.Srt W X L H n)
    (htx : Hid (txt = (if 9223372036854775808 ≤ bt x then [45] else []) ++ ptx (Lib.decDigits n) (t + (Lib.decDigits n).length - 1))) :
    Calls Tryz.prog 7 #[.float .f64 x] w fun e w' => e = .returned (.string (B txt)) ∧ Below w.heap.size w w' := by
  have hbt : Hid (Calls Tryz.prog 14 #[.float .f64 x] w fun e w' => e = .returned (.int .u64 (bt x : Nat)) ∧ w = w') := rbits_c x w hx
  have hbl := bt_lt hx
  have hnan : bt x % 9223372036854775808 ≤ 9218868437227405312 ∨ bt x = 9221120237041090560 := by
    unfold bt; split
    · right; rfl
    · left; omega
  generalize bt x = b at *
  obtain ⟨s, hs'⟩ : ∃ s, b % 9223372036854775808 = s := ⟨_, rfl⟩
  have hE : E ≤ 2045 := by omega
  have hsE : Hid (s = E * 4503599627370496 + m) := (by omega : s = E * 4503599627370496 + m)
  have hmask : bits .and .u64 (b : Int) 9223372036854775807 = (s : Int) := by
    have := bits_and_u64_nat b 9223372036854775807 (by omega) (by omega)
    rw [show (9223372036854775807 : Int) = ((9223372036854775807 : Nat) : Int) from rfl, this, show (9223372036854775807 : Nat) = 2 ^ 63 - 1 from rfl, Nat.and_two_pow_sub_one_eq_mod, show 2 ^ 63 = 9223372036854775808 from rfl, hs']
  have d1 : ((b : Int) == 0) = false := beq_eq_false_iff_ne.2 (by omega)
  have d2 : ((b : Int) == 9223372036854775808) = false := beq_eq_false_iff_ne.2 (by omega)
  have d3 : ((b : Int) == 9218868437227405312) = false := beq_eq_false_iff_ne.2 (by omega)
  have d4 : ((b : Int) == 18442240474082181120) = false := beq_eq_false_iff_ne.2 (by omega)
  have d5 : ((b : Int) == 9221120237041090560) = false := beq_eq_false_iff_ne.2 (by omega)
  have hsc : Hid (∀ w1, Calls Tryz.prog 15 #[.int .u64 s] w1 fun e w' => ∃ (D j : Nat) (y : Int), e = .returned (.tuple #[.string (B (Lib.decDigits D)), .int .i64 y]) ∧ Hid (0 < D ∧ n = D * 10 ^ j ∧ y = t + j) ∧ Below w1.heap.size w1 w') := fun w1 => rshort_c s E m w1 t W L H n X hv hs hsE h0 h1 h2 hE
  have hvb := hv.t1
  have hvb2 := hv.t2
  have hnb := srt_bounds hs hv.lo hv.hi
  clear c1 c2 c3 c4 c5 hb h0 h1 h2 hv hs hnan hsE hE hs'
  go_enter Tryz.func7, Tryz.ntmps7
  go_wp2_with fail
  refine hbt.out.mono ?_
  rintro e w' ⟨rfl, rfl⟩
  clear hbt
  go_wp2_with fail
  refine (hsc.out w).mono ?_
  rintro e w1 ⟨D, j, y, rfl, hDj, hb1⟩
  clear hsc
  have hb1H : Hid (Below w.heap.size w w1) := hb1
  obtain ⟨hD0, hnD, hyt⟩ := hDj.out
  have hj18 : j ≤ 18 := by
    apply Nat.le_of_not_lt
    intro hc
    have a1 : 10 ^ 19 ≤ 10 ^ j := Nat.pow_le_pow_right (by decide) (by omega)
    have a2 : 10 ^ j ≤ D * 10 ^ j := Nat.le_mul_of_pos_left _ hD0
    omega
  have hDn : D ≤ n := by rw [hnD]; exact Nat.le_mul_of_pos_right _ (Nat.pow_pos (by decide))
  have dl := Dg.dd_len hD0
  have hK19 : (Lib.decDigits D).length ≤ 19 := by
    apply Nat.le_of_not_lt
    intro hc
    have a1 : 10 ^ 19 ≤ 10 ^ ((Lib.decDigits D).length - 1) := Nat.pow_le_pow_right (by decide) (by omega)
    omega
  rw [srt_ptx (t := t) hnD hD0 hyt] at htx
  have hy1 : -400 ≤ y := by omega
  have hy2 : y ≤ 500 := by omega
  obtain ⟨l, hl⟩ : ∃ l, Hid (Lib.decDigits D = l) := ⟨_, rfl⟩
  have hfst : Hid (∀ c, l[0]? = some c → c.toNat ≠ 48) := fun c h => dd_first hD0 (by rw [hl.out]; exact h)
  have hK1 := dl.2.2
  obtain ⟨K, hK⟩ : ∃ K, l.length = K := ⟨_, rfl⟩
  rw [hl.out] at htx hK1 hK19 ⊢
  rw [hK] at htx hK1 hK19
  obtain ⟨R, hR⟩ : ∃ R, Hid (B l = R) := ⟨_, rfl⟩
  have zR : R.size = K := by rw [← hR.out, B_size, hK]
  rw [hR.out]
  clear hb1 hDj hD0 hnD hyt dl hnb hDn hvb hvb2 hj18
  go_wp2_with fail
  go_loop [5, 6] (fun sx sn => ∃ i : Nat, 1 ≤ i ∧ i ≤ K ∧ sn = .int .i64 i ∧ sx = .int .i64 (y + (K : Int) - (i : Int)) ∧ Hid (Upz l i)) (fun _ sn => (intOf sn).toNat)
  case atStart => exact ⟨K, hK1, Nat.le_refl _, rfl, by go_num, (by unfold Upz; rw [← hK, List.take_length] : Upz l K)⟩
  case round =>
    obtain ⟨i, hi1, hiK, rfl, rfl, hup⟩ := hrel
    obtain ⟨a, rfl⟩ : ∃ a, i = a + 1 := ⟨i - 1, by omega⟩
    have ha : a < R.size := by omega
    have hg : l[a]? = some R[a] := by
      have h := ba_get R a ha
      rw [show R.data.toList = l by rw [← hR.out]; rfl] at h
      exact h
    have hca : ((a + 1 : Nat) : Int) = (a : Int) + 1 := by omega
    rw [hca]
    by_cases hz : 1 ≤ a ∧ R[a].toNat = 48
    · obtain ⟨hz1, hz2⟩ := hz
      have hn : Hid (Upz l a) := upz_step hup.out hg hz2
      have hz1' : (1 : Int) < (a : Int) + 1 := by omega
      have hz2' : ((R[a].toNat : Int) == 48) = true := beq_iff_eq.2 (by omega)
      clear hg
      go_wp2_with fail
      go_round
      case rel => exact ⟨a, by omega, by omega, by go_num, by go_num, hn⟩
      case measure => simp [intOf]
    · have hrz : rz l = l.take (a + 1) := by
        by_cases h48 : R[a].toNat = 48
        · have ha0 : a = 0 := by omega
          subst ha0
          exact absurd h48 (hfst.out _ hg)
        · exact upz_end hup.out hg h48
      obtain ⟨r, hr⟩ : ∃ r, l.take (a + 1) = r := ⟨_, rfl⟩
      have hrl : r.length = a + 1 := by rw [← hr, List.length_take]; omega
      rw [hr] at hrz
      have hptx : Hid (ptx l (y + K - 1) = (if r.length = 1 then r else r.take 1 ++ [46] ++ r.drop 1) ++ [101] ++ Lib.itoa (y + K - 1)) := by
        show _ = _
        unfold ptx; rw [hrz]
      rw [hrl] at hptx
      obtain ⟨rr, hrr⟩ : ∃ rr, B r = rr := ⟨_, rfl⟩
      have e0 : R.extract 0 (a + 1) = rr := by rw [← hR.out, B_pre, hr, hrr]
      have zr : rr.size = a + 1 := by rw [← hrr, B_size, hrl]
      obtain ⟨r1, hr1⟩ : ∃ r1, B (r.take 1) = r1 := ⟨_, rfl⟩
      obtain ⟨r2, hr2⟩ : ∃ r2, B (r.drop 1) = r2 := ⟨_, rfl⟩
      have e1 : rr.extract 0 1 = r1 := by rw [← hrr, B_pre, hr1]
      have e2 : rr.extract 1 (a + 1) = r2 := by rw [← zr, ← hrr, B_suf, hr2]
      have x1 : r1.size = 1 := by rw [← hr1, B_size, List.length_take, hrl]; omega
      have x2 : r2.size = a := by rw [← hr2, B_size, List.length_drop, hrl]; omega
      clear hr hrz hrr hfst hup hl hR
      by_cases h1a : a = 0
      · subst h1a
        clear hz
        by_cases cs : 9223372036854775808 ≤ b
        · have hsg : (if 9223372036854775808 ≤ b then ([45] : List UInt8) else []) = [45] := if_pos cs
          have hbs : (b : Int) / 9223372036854775808 = 1 := by omega
          by_cases cn : y + (K : Int) - 1 < 0
          · obtain ⟨q, hq⟩ : ∃ q : Nat, y + (K : Int) - 1 = -(q : Int) := ⟨(-(y + (K : Int) - 1)).toNat, by omega⟩
            have hq0 : 0 < q := by omega
            have hit : Lib.itoa (y + (K : Int) - 1) = 45 :: Lib.decDigits q := by unfold Lib.itoa; rw [if_pos cn, hq]; congr 2; omega
            have hql : q ≤ 999 := by omega
            obtain ⟨s1, hs1⟩ : ∃ s1, B ([45] ++ r.take 1) = s1 := ⟨_, rfl⟩
            have g1 : (⟨#[45]⟩ : ByteArray) ++ r1 = s1 := by rw [← hs1, ← hr1]; exact B_append [45] _
            have y1 : s1.size = 2 := by rw [← hs1, B_size, List.length_append, List.length_take, hrl]; simp
            obtain ⟨s4, hs4⟩ : ∃ s4, B (([45] ++ r.take 1) ++ [101, 45]) = s4 := ⟨_, rfl⟩
            have g4 : s1 ++ (⟨#[101, 45]⟩ : ByteArray) = s4 := by rw [← hs1, ← hs4]; exact B_append _ [101, 45]
            have y4 : s4.size ≤ 50 := by rw [← hs4, B_size]; simp [hrl]; try omega
            obtain ⟨dn, hdn⟩ : ∃ dn, B (Lib.decDigits q) = dn := ⟨_, rfl⟩
            have ydn : dn.size ≤ 10 := by rw [← hdn, B_size]; have := dd_short (u := q) (by omega); omega
            obtain ⟨s5, hs5⟩ : ∃ s5, B (([45] ++ r.take 1) ++ [101, 45] ++ Lib.decDigits q) = s5 := ⟨_, rfl⟩
            have g5 : s4 ++ dn = s5 := by rw [← hs4, ← hdn, ← hs5]; exact B_append _ _
            have y5 : s5.size ≤ 70 := by rw [← hs5, B_size, List.length_append]; have := dd_short (u := q) (by omega); simp [hrl]; omega
            have hfin : Hid (s5 = B txt) := by
              show _ = _
              rw [← hs5, htx.out, hsg, hptx.out, if_pos (by omega)]
              congr 1
              rw [show r.take 1 = r from List.take_of_length_le (by omega)]
              rw [hit]
              simp
            have hdn' : B (Lib.decDigits q) = dn := hdn
            clear hs1 hs4 hdn hs5 hr1 hr2 hptx hsg hit hrl
            go_wp2_with fail
            refine (rdecimal_c q w1 (by omega)).mono ?_
            rintro e w2 ⟨rfl, hb2⟩
            have hb2H : Hid (Below w.heap.size w w2) := hb1H.out.trans (hb2.mono hb1H.out.size)
            rw [hdn']
            clear hb2 hb1H
            go_wp2_with fail
            go_ret
            exact ⟨by rw [← hfin.out]; rfl, hb2H.out⟩
          · obtain ⟨q, hq⟩ : ∃ q : Nat, y + (K : Int) - 1 = (q : Int) := ⟨(y + (K : Int) - 1).toNat, by omega⟩
            have hit : Lib.itoa (y + (K : Int) - 1) = Lib.decDigits q := by unfold Lib.itoa; rw [if_neg cn, hq]; congr 1
            have hql : q ≤ 999 := by omega
            obtain ⟨s1, hs1⟩ : ∃ s1, B ([45] ++ r.take 1) = s1 := ⟨_, rfl⟩
            have g1 : (⟨#[45]⟩ : ByteArray) ++ r1 = s1 := by rw [← hs1, ← hr1]; exact B_append [45] _
            have y1 : s1.size = 2 := by rw [← hs1, B_size, List.length_append, List.length_take, hrl]; simp
            obtain ⟨s4, hs4⟩ : ∃ s4, B (([45] ++ r.take 1) ++ [101]) = s4 := ⟨_, rfl⟩
            have g4 : s1 ++ (⟨#[101]⟩ : ByteArray) = s4 := by rw [← hs1, ← hs4]; exact B_append _ [101]
            have y4 : s4.size ≤ 50 := by rw [← hs4, B_size]; simp [hrl]; try omega
            obtain ⟨dn, hdn⟩ : ∃ dn, B (Lib.decDigits q) = dn := ⟨_, rfl⟩
            have ydn : dn.size ≤ 10 := by rw [← hdn, B_size]; have := dd_short (u := q) (by omega); omega
            obtain ⟨s5, hs5⟩ : ∃ s5, B (([45] ++ r.take 1) ++ [101] ++ Lib.decDigits q) = s5 := ⟨_, rfl⟩
            have g5 : s4 ++ dn = s5 := by rw [← hs4, ← hdn, ← hs5]; exact B_append _ _
            have y5 : s5.size ≤ 70 := by rw [← hs5, B_size, List.length_append]; have := dd_short (u := q) (by omega); simp [hrl]; omega
            have hfin : Hid (s5 = B txt) := by
              show _ = _
              rw [← hs5, htx.out, hsg, hptx.out, if_pos (by omega)]
              congr 1
              rw [show r.take 1 = r from List.take_of_length_le (by omega)]
              rw [hit]
              simp
            have hdn' : B (Lib.decDigits q) = dn := hdn
            clear hs1 hs4 hdn hs5 hr1 hr2 hptx hsg hit hrl
            go_wp2_with fail
            refine (rdecimal_c q w1 (by omega)).mono ?_
            rintro e w2 ⟨rfl, hb2⟩
            have hb2H : Hid (Below w.heap.size w w2) := hb1H.out.trans (hb2.mono hb1H.out.size)
            rw [hdn']
            clear hb2 hb1H
            go_wp2_with fail
            go_ret
            exact ⟨by rw [← hfin.out]; rfl, hb2H.out⟩
        · have hsg : (if 9223372036854775808 ≤ b then ([45] : List UInt8) else []) = [] := if_neg cs
          have hbs : (b : Int) / 9223372036854775808 = 0 := by omega
          by_cases cn : y + (K : Int) - 1 < 0
          · obtain ⟨q, hq⟩ : ∃ q : Nat, y + (K : Int) - 1 = -(q : Int) := ⟨(-(y + (K : Int) - 1)).toNat, by omega⟩
            have hq0 : 0 < q := by omega
            have hit : Lib.itoa (y + (K : Int) - 1) = 45 :: Lib.decDigits q := by unfold Lib.itoa; rw [if_pos cn, hq]; congr 2; omega
            have hql : q ≤ 999 := by omega
            obtain ⟨s1, hs1⟩ : ∃ s1, B ([] ++ r.take 1) = s1 := ⟨_, rfl⟩
            have g1 : (⟨#[]⟩ : ByteArray) ++ r1 = s1 := by rw [← hs1, ← hr1]; exact B_append [] _
            have y1 : s1.size = 1 := by rw [← hs1, B_size, List.length_append, List.length_take, hrl]; simp
            obtain ⟨s4, hs4⟩ : ∃ s4, B (([] ++ r.take 1) ++ [101, 45]) = s4 := ⟨_, rfl⟩
            have g4 : s1 ++ (⟨#[101, 45]⟩ : ByteArray) = s4 := by rw [← hs1, ← hs4]; exact B_append _ [101, 45]
            have y4 : s4.size ≤ 50 := by rw [← hs4, B_size]; simp [hrl]; try omega
            obtain ⟨dn, hdn⟩ : ∃ dn, B (Lib.decDigits q) = dn := ⟨_, rfl⟩
            have ydn : dn.size ≤ 10 := by rw [← hdn, B_size]; have := dd_short (u := q) (by omega); omega
            obtain ⟨s5, hs5⟩ : ∃ s5, B (([] ++ r.take 1) ++ [101, 45] ++ Lib.decDigits q) = s5 := ⟨_, rfl⟩
            have g5 : s4 ++ dn = s5 := by rw [← hs4, ← hdn, ← hs5]; exact B_append _ _
            have y5 : s5.size ≤ 70 := by rw [← hs5, B_size, List.length_append]; have := dd_short (u := q) (by omega); simp [hrl]; omega
            have hfin : Hid (s5 = B txt) := by
              show _ = _
              rw [← hs5, htx.out, hsg, hptx.out, if_pos (by omega)]
              congr 1
              rw [show r.take 1 = r from List.take_of_length_le (by omega)]
              rw [hit]
              simp
            have hdn' : B (Lib.decDigits q) = dn := hdn
            clear hs1 hs4 hdn hs5 hr1 hr2 hptx hsg hit hrl
            go_wp2_with fail
            refine (rdecimal_c q w1 (by omega)).mono ?_
            rintro e w2 ⟨rfl, hb2⟩
            have hb2H : Hid (Below w.heap.size w w2) := hb1H.out.trans (hb2.mono hb1H.out.size)
            rw [hdn']
            clear hb2 hb1H
            go_wp2_with fail
            go_ret
            exact ⟨by rw [← hfin.out]; rfl, hb2H.out⟩
          · obtain ⟨q, hq⟩ : ∃ q : Nat, y + (K : Int) - 1 = (q : Int) := ⟨(y + (K : Int) - 1).toNat, by omega⟩
            have hit : Lib.itoa (y + (K : Int) - 1) = Lib.decDigits q := by unfold Lib.itoa; rw [if_neg cn, hq]; congr 1
            have hql : q ≤ 999 := by omega
            obtain ⟨s1, hs1⟩ : ∃ s1, B ([] ++ r.take 1) = s1 := ⟨_, rfl⟩
            have g1 : (⟨#[]⟩ : ByteArray) ++ r1 = s1 := by rw [← hs1, ← hr1]; exact B_append [] _
            have y1 : s1.size = 1 := by rw [← hs1, B_size, List.length_append, List.length_take, hrl]; simp
            obtain ⟨s4, hs4⟩ : ∃ s4, B (([] ++ r.take 1) ++ [101]) = s4 := ⟨_, rfl⟩
            have g4 : s1 ++ (⟨#[101]⟩ : ByteArray) = s4 := by rw [← hs1, ← hs4]; exact B_append _ [101]
            have y4 : s4.size ≤ 50 := by rw [← hs4, B_size]; simp [hrl]; try omega
            obtain ⟨dn, hdn⟩ : ∃ dn, B (Lib.decDigits q) = dn := ⟨_, rfl⟩
            have ydn : dn.size ≤ 10 := by rw [← hdn, B_size]; have := dd_short (u := q) (by omega); omega
            obtain ⟨s5, hs5⟩ : ∃ s5, B (([] ++ r.take 1) ++ [101] ++ Lib.decDigits q) = s5 := ⟨_, rfl⟩
            have g5 : s4 ++ dn = s5 := by rw [← hs4, ← hdn, ← hs5]; exact B_append _ _
            have y5 : s5.size ≤ 70 := by rw [← hs5, B_size, List.length_append]; have := dd_short (u := q) (by omega); simp [hrl]; omega
            have hfin : Hid (s5 = B txt) := by
              show _ = _
              rw [← hs5, htx.out, hsg, hptx.out, if_pos (by omega)]
              congr 1
              rw [show r.take 1 = r from List.take_of_length_le (by omega)]
              rw [hit]
              simp
            have hdn' : B (Lib.decDigits q) = dn := hdn
            clear hs1 hs4 hdn hs5 hr1 hr2 hptx hsg hit hrl
            go_wp2_with fail
            refine (rdecimal_c q w1 (by omega)).mono ?_
            rintro e w2 ⟨rfl, hb2⟩
            have hb2H : Hid (Below w.heap.size w w2) := hb1H.out.trans (hb2.mono hb1H.out.size)
            rw [hdn']
            clear hb2 hb1H
            go_wp2_with fail
            go_ret
            exact ⟨by rw [← hfin.out]; rfl, hb2H.out⟩
      · have hz2' : ((R[a].toNat : Int) == 48) = false := beq_eq_false_iff_ne.2 (by omega)
        have hz1' : (1 : Int) < (a : Int) + 1 := by omega
        clear hz
        by_cases cs : 9223372036854775808 ≤ b
        · have hsg : (if 9223372036854775808 ≤ b then ([45] : List UInt8) else []) = [45] := if_pos cs
          have hbs : (b : Int) / 9223372036854775808 = 1 := by omega
          by_cases cn : y + (K : Int) - 1 < 0
          · obtain ⟨q, hq⟩ : ∃ q : Nat, y + (K : Int) - 1 = -(q : Int) := ⟨(-(y + (K : Int) - 1)).toNat, by omega⟩
            have hq0 : 0 < q := by omega
            have hit : Lib.itoa (y + (K : Int) - 1) = 45 :: Lib.decDigits q := by unfold Lib.itoa; rw [if_pos cn, hq]; congr 2; omega
            have hqa : y + (K : Int) - ((a : Int) + 1) + (a : Int) = -(q : Int) := by omega
            have hql : q ≤ 999 := by omega
            obtain ⟨s1, hs1⟩ : ∃ s1, B ([45] ++ r.take 1) = s1 := ⟨_, rfl⟩
            have g1 : (⟨#[45]⟩ : ByteArray) ++ r1 = s1 := by rw [← hs1, ← hr1]; exact B_append [45] _
            have y1 : s1.size = 2 := by rw [← hs1, B_size, List.length_append, List.length_take, hrl]; simp
            obtain ⟨s2, hs2⟩ : ∃ s2, B ([46] ++ r.drop 1) = s2 := ⟨_, rfl⟩
            have g2 : (⟨#[46]⟩ : ByteArray) ++ r2 = s2 := by rw [← hs2, ← hr2]; exact B_append [46] _
            have y2 : s2.size ≤ 30 := by rw [← hs2, B_size, List.length_append, List.length_drop, hrl]; simp; omega
            obtain ⟨s3, hs3⟩ : ∃ s3, B (([45] ++ r.take 1) ++ ([46] ++ r.drop 1)) = s3 := ⟨_, rfl⟩
            have g3 : s1 ++ s2 = s3 := by rw [← hs1, ← hs2, ← hs3]; exact B_append _ _
            have y3 : s3.size ≤ 40 := by rw [← hs3, B_size, List.length_append, List.length_append, List.length_append, List.length_take, List.length_drop, hrl]; simp; omega
            obtain ⟨s4, hs4⟩ : ∃ s4, B ((([45] ++ r.take 1) ++ ([46] ++ r.drop 1)) ++ [101, 45]) = s4 := ⟨_, rfl⟩
            have g4 : s3 ++ (⟨#[101, 45]⟩ : ByteArray) = s4 := by rw [← hs3, ← hs4]; exact B_append _ [101, 45]
            have y4 : s4.size ≤ 50 := by rw [← hs4, B_size]; simp [hrl]; try omega
            obtain ⟨dn, hdn⟩ : ∃ dn, B (Lib.decDigits q) = dn := ⟨_, rfl⟩
            have ydn : dn.size ≤ 10 := by rw [← hdn, B_size]; have := dd_short (u := q) (by omega); omega
            obtain ⟨s5, hs5⟩ : ∃ s5, B ((([45] ++ r.take 1) ++ ([46] ++ r.drop 1)) ++ [101, 45] ++ Lib.decDigits q) = s5 := ⟨_, rfl⟩
            have g5 : s4 ++ dn = s5 := by rw [← hs4, ← hdn, ← hs5]; exact B_append _ _
            have y5 : s5.size ≤ 70 := by rw [← hs5, B_size, List.length_append]; have := dd_short (u := q) (by omega); simp [hrl]; omega
            have hfin : Hid (s5 = B txt) := by
              show _ = _
              rw [← hs5, htx.out, hsg, hptx.out, if_neg (by omega)]
              congr 1
              rw [hit]
              simp
            have hdn' : B (Lib.decDigits q) = dn := hdn
            clear hs1 hs4 hdn hs5 hs2 hs3 hr1 hr2 hptx hsg hit hrl
            go_wp2_with fail
            refine (rdecimal_c q w1 (by omega)).mono ?_
            rintro e w2 ⟨rfl, hb2⟩
            have hb2H : Hid (Below w.heap.size w w2) := hb1H.out.trans (hb2.mono hb1H.out.size)
            rw [hdn']
            clear hb2 hb1H
            go_wp2_with fail
            go_ret
            exact ⟨by rw [← hfin.out]; rfl, hb2H.out⟩
          · obtain ⟨q, hq⟩ : ∃ q : Nat, y + (K : Int) - 1 = (q : Int) := ⟨(y + (K : Int) - 1).toNat, by omega⟩
            have hit : Lib.itoa (y + (K : Int) - 1) = Lib.decDigits q := by unfold Lib.itoa; rw [if_neg cn, hq]; congr 1
            have hqa : y + (K : Int) - ((a : Int) + 1) + (a : Int) = (q : Int) := by omega
            have hql : q ≤ 999 := by omega
            obtain ⟨s1, hs1⟩ : ∃ s1, B ([45] ++ r.take 1) = s1 := ⟨_, rfl⟩
            have g1 : (⟨#[45]⟩ : ByteArray) ++ r1 = s1 := by rw [← hs1, ← hr1]; exact B_append [45] _
            have y1 : s1.size = 2 := by rw [← hs1, B_size, List.length_append, List.length_take, hrl]; simp
            obtain ⟨s2, hs2⟩ : ∃ s2, B ([46] ++ r.drop 1) = s2 := ⟨_, rfl⟩
            have g2 : (⟨#[46]⟩ : ByteArray) ++ r2 = s2 := by rw [← hs2, ← hr2]; exact B_append [46] _
            have y2 : s2.size ≤ 30 := by rw [← hs2, B_size, List.length_append, List.length_drop, hrl]; simp; omega
            obtain ⟨s3, hs3⟩ : ∃ s3, B (([45] ++ r.take 1) ++ ([46] ++ r.drop 1)) = s3 := ⟨_, rfl⟩
            have g3 : s1 ++ s2 = s3 := by rw [← hs1, ← hs2, ← hs3]; exact B_append _ _
            have y3 : s3.size ≤ 40 := by rw [← hs3, B_size, List.length_append, List.length_append, List.length_append, List.length_take, List.length_drop, hrl]; simp; omega
            obtain ⟨s4, hs4⟩ : ∃ s4, B ((([45] ++ r.take 1) ++ ([46] ++ r.drop 1)) ++ [101]) = s4 := ⟨_, rfl⟩
            have g4 : s3 ++ (⟨#[101]⟩ : ByteArray) = s4 := by rw [← hs3, ← hs4]; exact B_append _ [101]
            have y4 : s4.size ≤ 50 := by rw [← hs4, B_size]; simp [hrl]; try omega
            obtain ⟨dn, hdn⟩ : ∃ dn, B (Lib.decDigits q) = dn := ⟨_, rfl⟩
            have ydn : dn.size ≤ 10 := by rw [← hdn, B_size]; have := dd_short (u := q) (by omega); omega
            obtain ⟨s5, hs5⟩ : ∃ s5, B ((([45] ++ r.take 1) ++ ([46] ++ r.drop 1)) ++ [101] ++ Lib.decDigits q) = s5 := ⟨_, rfl⟩
            have g5 : s4 ++ dn = s5 := by rw [← hs4, ← hdn, ← hs5]; exact B_append _ _
            have y5 : s5.size ≤ 70 := by rw [← hs5, B_size, List.length_append]; have := dd_short (u := q) (by omega); simp [hrl]; omega
            have hfin : Hid (s5 = B txt) := by
              show _ = _
              rw [← hs5, htx.out, hsg, hptx.out, if_neg (by omega)]
              congr 1
              rw [hit]
              simp
            have hdn' : B (Lib.decDigits q) = dn := hdn
            clear hs1 hs4 hdn hs5 hs2 hs3 hr1 hr2 hptx hsg hit hrl
            go_wp2_with fail
            refine (rdecimal_c q w1 (by omega)).mono ?_
            rintro e w2 ⟨rfl, hb2⟩
            have hb2H : Hid (Below w.heap.size w w2) := hb1H.out.trans (hb2.mono hb1H.out.size)
            rw [hdn']
            clear hb2 hb1H
            go_wp2_with fail
            go_ret
            exact ⟨by rw [← hfin.out]; rfl, hb2H.out⟩
        · have hsg : (if 9223372036854775808 ≤ b then ([45] : List UInt8) else []) = [] := if_neg cs
          have hbs : (b : Int) / 9223372036854775808 = 0 := by omega
          by_cases cn : y + (K : Int) - 1 < 0
          · obtain ⟨q, hq⟩ : ∃ q : Nat, y + (K : Int) - 1 = -(q : Int) := ⟨(-(y + (K : Int) - 1)).toNat, by omega⟩
            have hq0 : 0 < q := by omega
            have hit : Lib.itoa (y + (K : Int) - 1) = 45 :: Lib.decDigits q := by unfold Lib.itoa; rw [if_pos cn, hq]; congr 2; omega
            have hqa : y + (K : Int) - ((a : Int) + 1) + (a : Int) = -(q : Int) := by omega
            have hql : q ≤ 999 := by omega
            obtain ⟨s1, hs1⟩ : ∃ s1, B ([] ++ r.take 1) = s1 := ⟨_, rfl⟩
            have g1 : (⟨#[]⟩ : ByteArray) ++ r1 = s1 := by rw [← hs1, ← hr1]; exact B_append [] _
            have y1 : s1.size = 1 := by rw [← hs1, B_size, List.length_append, List.length_take, hrl]; simp
            obtain ⟨s2, hs2⟩ : ∃ s2, B ([46] ++ r.drop 1) = s2 := ⟨_, rfl⟩
            have g2 : (⟨#[46]⟩ : ByteArray) ++ r2 = s2 := by rw [← hs2, ← hr2]; exact B_append [46] _
            have y2 : s2.size ≤ 30 := by rw [← hs2, B_size, List.length_append, List.length_drop, hrl]; simp; omega
            obtain ⟨s3, hs3⟩ : ∃ s3, B (([] ++ r.take 1) ++ ([46] ++ r.drop 1)) = s3 := ⟨_, rfl⟩
            have g3 : s1 ++ s2 = s3 := by rw [← hs1, ← hs2, ← hs3]; exact B_append _ _
            have y3 : s3.size ≤ 40 := by rw [← hs3, B_size, List.length_append, List.length_append, List.length_append, List.length_take, List.length_drop, hrl]; simp; omega
            obtain ⟨s4, hs4⟩ : ∃ s4, B ((([] ++ r.take 1) ++ ([46] ++ r.drop 1)) ++ [101, 45]) = s4 := ⟨_, rfl⟩
            have g4 : s3 ++ (⟨#[101, 45]⟩ : ByteArray) = s4 := by rw [← hs3, ← hs4]; exact B_append _ [101, 45]
            have y4 : s4.size ≤ 50 := by rw [← hs4, B_size]; simp [hrl]; try omega
            obtain ⟨dn, hdn⟩ : ∃ dn, B (Lib.decDigits q) = dn := ⟨_, rfl⟩
            have ydn : dn.size ≤ 10 := by rw [← hdn, B_size]; have := dd_short (u := q) (by omega); omega
            obtain ⟨s5, hs5⟩ : ∃ s5, B ((([] ++ r.take 1) ++ ([46] ++ r.drop 1)) ++ [101, 45] ++ Lib.decDigits q) = s5 := ⟨_, rfl⟩
            have g5 : s4 ++ dn = s5 := by rw [← hs4, ← hdn, ← hs5]; exact B_append _ _
            have y5 : s5.size ≤ 70 := by rw [← hs5, B_size, List.length_append]; have := dd_short (u := q) (by omega); simp [hrl]; omega
            have hfin : Hid (s5 = B txt) := by
              show _ = _
              rw [← hs5, htx.out, hsg, hptx.out, if_neg (by omega)]
              congr 1
              rw [hit]
              simp
            have hdn' : B (Lib.decDigits q) = dn := hdn
            clear hs1 hs4 hdn hs5 hs2 hs3 hr1 hr2 hptx hsg hit hrl
            go_wp2_with fail
            refine (rdecimal_c q w1 (by omega)).mono ?_
            rintro e w2 ⟨rfl, hb2⟩
            have hb2H : Hid (Below w.heap.size w w2) := hb1H.out.trans (hb2.mono hb1H.out.size)
            rw [hdn']
            clear hb2 hb1H
            go_wp2_with fail
            go_ret
            exact ⟨by rw [← hfin.out]; rfl, hb2H.out⟩
          · obtain ⟨q, hq⟩ : ∃ q : Nat, y + (K : Int) - 1 = (q : Int) := ⟨(y + (K : Int) - 1).toNat, by omega⟩
            have hit : Lib.itoa (y + (K : Int) - 1) = Lib.decDigits q := by unfold Lib.itoa; rw [if_neg cn, hq]; congr 1
            have hqa : y + (K : Int) - ((a : Int) + 1) + (a : Int) = (q : Int) := by omega
            have hql : q ≤ 999 := by omega
            obtain ⟨s1, hs1⟩ : ∃ s1, B ([] ++ r.take 1) = s1 := ⟨_, rfl⟩
            have g1 : (⟨#[]⟩ : ByteArray) ++ r1 = s1 := by rw [← hs1, ← hr1]; exact B_append [] _
            have y1 : s1.size = 1 := by rw [← hs1, B_size, List.length_append, List.length_take, hrl]; simp
            obtain ⟨s2, hs2⟩ : ∃ s2, B ([46] ++ r.drop 1) = s2 := ⟨_, rfl⟩
            have g2 : (⟨#[46]⟩ : ByteArray) ++ r2 = s2 := by rw [← hs2, ← hr2]; exact B_append [46] _
            have y2 : s2.size ≤ 30 := by rw [← hs2, B_size, List.length_append, List.length_drop, hrl]; simp; omega
            obtain ⟨s3, hs3⟩ : ∃ s3, B (([] ++ r.take 1) ++ ([46] ++ r.drop 1)) = s3 := ⟨_, rfl⟩
            have g3 : s1 ++ s2 = s3 := by rw [← hs1, ← hs2, ← hs3]; exact B_append _ _
            have y3 : s3.size ≤ 40 := by rw [← hs3, B_size, List.length_append, List.length_append, List.length_append, List.length_take, List.length_drop, hrl]; simp; omega
            obtain ⟨s4, hs4⟩ : ∃ s4, B ((([] ++ r.take 1) ++ ([46] ++ r.drop 1)) ++ [101]) = s4 := ⟨_, rfl⟩
            have g4 : s3 ++ (⟨#[101]⟩ : ByteArray) = s4 := by rw [← hs3, ← hs4]; exact B_append _ [101]
            have y4 : s4.size ≤ 50 := by rw [← hs4, B_size]; simp [hrl]; try omega
            obtain ⟨dn, hdn⟩ : ∃ dn, B (Lib.decDigits q) = dn := ⟨_, rfl⟩
            have ydn : dn.size ≤ 10 := by rw [← hdn, B_size]; have := dd_short (u := q) (by omega); omega
            obtain ⟨s5, hs5⟩ : ∃ s5, B ((([] ++ r.take 1) ++ ([46] ++ r.drop 1)) ++ [101] ++ Lib.decDigits q) = s5 := ⟨_, rfl⟩
            have g5 : s4 ++ dn = s5 := by rw [← hs4, ← hdn, ← hs5]; exact B_append _ _
            have y5 : s5.size ≤ 70 := by rw [← hs5, B_size, List.length_append]; have := dd_short (u := q) (by omega); simp [hrl]; omega
            have hfin : Hid (s5 = B txt) := by
              show _ = _
              rw [← hs5, htx.out, hsg, hptx.out, if_neg (by omega)]
              congr 1
              rw [hit]
              simp
            have hdn' : B (Lib.decDigits q) = dn := hdn
            clear hs1 hs4 hdn hs5 hs2 hs3 hr1 hr2 hptx hsg hit hrl
            go_wp2_with fail
            refine (rdecimal_c q w1 (by omega)).mono ?_
            rintro e w2 ⟨rfl, hb2⟩
            have hb2H : Hid (Below w.heap.size w w2) := hb1H.out.trans (hb2.mono hb1H.out.size)
            rw [hdn']
            clear hb2 hb1H
            go_wp2_with fail
            go_ret
            exact ⟨by rw [← hfin.out]; rfl, hb2H.out⟩
end Go.Proofs.YtmdnmhbfdceliaaGreatDoor
/-
  The document's Plain at every float.
-/
namespace Go.Proofs.YtmdnmhbfdceliaaGreatDoor
open Flo Go.RowKit
set_option maxRecDepth 100000 in
theorem r3Plain_nan (x : Nat) (w : World) (hx : x < 18446744073709551616) (hb : bt x = 9221120237041090560) :
    Calls Tryz.prog 7 #[.float .f64 x] w fun e w' => e = .returned (.string (B [110, 97, 110])) ∧ Below w.heap.size w w' := by
  have hbt : Hid (Calls Tryz.prog 14 #[.float .f64 x] w fun e w' => e = .returned (.int .u64 (bt x : Nat)) ∧ w = w') := rbits_c x w hx
  rw [hb] at hbt
  clear hb
  go_enter Tryz.func7, Tryz.ntmps7
  go_wp2_with fail
  refine hbt.out.mono ?_
  rintro e w' ⟨rfl, rfl⟩
  go_wp2_with fail
  go_ret
  exact ⟨rfl, Below.refl _ _⟩
set_option maxRecDepth 100000 in
theorem r3Plain_inf (x : Nat) (w : World) (hx : x < 18446744073709551616) (hb : bt x = 9218868437227405312) :
    Calls Tryz.prog 7 #[.float .f64 x] w fun e w' => e = .returned (.string (B [105, 110, 102])) ∧ Below w.heap.size w w' := by
  have hbt : Hid (Calls Tryz.prog 14 #[.float .f64 x] w fun e w' => e = .returned (.int .u64 (bt x : Nat)) ∧ w = w') := rbits_c x w hx
  rw [hb] at hbt
  clear hb
  go_enter Tryz.func7, Tryz.ntmps7
  go_wp2_with fail
  refine hbt.out.mono ?_
  rintro e w' ⟨rfl, rfl⟩
  go_wp2_with fail
  go_ret
  exact ⟨rfl, Below.refl _ _⟩
set_option maxRecDepth 100000 in
theorem r3Plain_mnf (x : Nat) (w : World) (hx : x < 18446744073709551616) (hb : bt x = 18442240474082181120) :
    Calls Tryz.prog 7 #[.float .f64 x] w fun e w' => e = .returned (.string (B [45, 105, 110, 102])) ∧ Below w.heap.size w w' := by
  have hbt : Hid (Calls Tryz.prog 14 #[.float .f64 x] w fun e w' => e = .returned (.int .u64 (bt x : Nat)) ∧ w = w') := rbits_c x w hx
  rw [hb] at hbt
  clear hb
  go_enter Tryz.func7, Tryz.ntmps7
  go_wp2_with fail
  refine hbt.out.mono ?_
  rintro e w' ⟨rfl, rfl⟩
  go_wp2_with fail
  go_ret
  exact ⟨rfl, Below.refl _ _⟩
set_option maxRecDepth 100000 in
theorem r3Plain_zer (x : Nat) (w : World) (hx : x < 18446744073709551616) (hb : bt x = 0) :
    Calls Tryz.prog 7 #[.float .f64 x] w fun e w' => e = .returned (.string (B [48, 101, 48])) ∧ Below w.heap.size w w' := by
  have hbt : Hid (Calls Tryz.prog 14 #[.float .f64 x] w fun e w' => e = .returned (.int .u64 (bt x : Nat)) ∧ w = w') := rbits_c x w hx
  rw [hb] at hbt
  clear hb
  go_enter Tryz.func7, Tryz.ntmps7
  go_wp2_with fail
  refine hbt.out.mono ?_
  rintro e w' ⟨rfl, rfl⟩
  go_wp2_with fail
  go_ret
  exact ⟨rfl, Below.refl _ _⟩
set_option maxRecDepth 100000 in
theorem r3Plain_mze (x : Nat) (w : World) (hx : x < 18446744073709551616) (hb : bt x = 9223372036854775808) :
    Calls Tryz.prog 7 #[.float .f64 x] w fun e w' => e = .returned (.string (B [45, 48, 101, 48])) ∧ Below w.heap.size w w' := by
  have hbt : Hid (Calls Tryz.prog 14 #[.float .f64 x] w fun e w' => e = .returned (.int .u64 (bt x : Nat)) ∧ w = w') := rbits_c x w hx
  rw [hb] at hbt
  clear hb
  go_enter Tryz.func7, Tryz.ntmps7
  go_wp2_with fail
  refine hbt.out.mono ?_
  rintro e w' ⟨rfl, rfl⟩
  go_wp2_with fail
  go_ret
  exact ⟨rfl, Below.refl _ _⟩
theorem r3Plain_c' (x : Nat) (txt : List UInt8) (w : World) (hx : x < 18446744073709551616) (h : PT (bt x) txt) :
    Calls Tryz.prog 7 #[.float .f64 x] w fun e w' => e = .returned (.string (B txt)) ∧ Below w.heap.size w w' := by
  unfold PT at h
  by_cases c1 : bt x = 9221120237041090560
  · rw [if_pos c1] at h; rw [h]; exact r3Plain_nan x w hx c1
  rw [if_neg c1] at h
  by_cases c2 : bt x = 9218868437227405312
  · rw [if_pos c2] at h; rw [h]; exact r3Plain_inf x w hx c2
  rw [if_neg c2] at h
  by_cases c3 : bt x = 18442240474082181120
  · rw [if_pos c3] at h; rw [h]; exact r3Plain_mnf x w hx c3
  rw [if_neg c3] at h
  by_cases c4 : bt x = 0
  · rw [if_pos c4] at h; rw [h]; exact r3Plain_zer x w hx c4
  rw [if_neg c4] at h
  by_cases c5 : bt x = 9223372036854775808
  · rw [if_pos c5] at h; rw [h]; exact r3Plain_mze x w hx c5
  rw [if_neg c5] at h
  obtain ⟨E, m, t, W, L, H, n, X, hb, h0, h1, h2, hv, hs, ht⟩ := h
  exact r3PlainN_c x txt w hx c1 c2 c3 c4 c5 E m t W L H n X hb h0 h1 h2 hv hs ht
end Go.Proofs.YtmdnmhbfdceliaaGreatDoor
