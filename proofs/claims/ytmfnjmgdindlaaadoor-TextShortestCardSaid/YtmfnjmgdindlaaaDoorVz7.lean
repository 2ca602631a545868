/-
  The program's plainSize and Plain.
-/
import Derived.Test.YtmfnjmgdindlaaaDoorVy7
import Derived.Test.YtmfnjmgdindlaaaDoorPl4
import Derived.Test.YtmfnjmgdindlaaaDoorDgq
namespace Go.Proofs.YtmfnjmgdindlaaaDoor
open Flo Go.RowKit
/-- the plain text of digits, the first of which stands for 10^x -/
def ptx (l : List UInt8) (x : Int) : List UInt8 := (if (rz l).length = 1 then rz l else (rz l).take 1 ++ [46] ++ (rz l).drop 1) ++ [101] ++ Lib.itoa x
theorem view_found {E m : Nat} {t : Int} {W L H : Nat} {X : Bool} (h0 : 0 < m) (h1 : m < 9007199254740992) (v : View E m t W X L H) : Rd.nst W X L H 10 ≠ none := by
  intro h
  have h2 := Rd.nst_none h
  have h3 := Rd.found17 (E := E) (a := Rd.sU ((E : Int) - 1076) t) (b := Rd.sD ((E : Int) - 1076) t) (W := W) h0 h1 (Rd.sD_pos _ _) v.wh.symm v.lo
  rw [v.le, v.mo] at h3
  rcases h3 with h3 | h3
  · exact h2.1 h3
  · exact h2.2 h3
theorem srt_bounds {W L H n : Nat} {X : Bool} (h : Rd.Srt W X L H n) (h1 : 100000000000000000 ≤ W) (h2 : W < 1000000000000000000) : 100000000000000000 ≤ n ∧ n ≤ 1100000000000000000 := by
  obtain ⟨k, k1, k2, hk, _⟩ := h
  have pb := pow_bounds k1 k2
  have hp : 0 < 10 ^ (18 - k) := Nat.pow_pos (by decide)
  have hb := Rd.nst_bounds hk
  have e : 100000000000000000 = 10 ^ (k - 1) * 10 ^ (18 - k) := by rw [← Nat.pow_add, show k - 1 + (18 - k) = 17 by omega]
  have h3 : 10 ^ (k - 1) ≤ W / 10 ^ (18 - k) := by
    rw [Nat.le_div_iff_mul_le hp, ← e]; exact h1
  have h4 := Nat.mul_le_mul_right (10 ^ (18 - k)) h3
  rw [← e] at h4
  have h5 := Nat.div_mul_le_self W (10 ^ (18 - k))
  rcases hb with hb | hb <;> omega
theorem trimRight_c (l : List UInt8) (w : World) (hl : l.length ≤ 1000) (hne : l ≠ []) :
    Calls Tryd.prog 30 #[.string (B l), .string ⟨#[48]⟩] w fun e w' => e = .returned (.string (B (rz l))) ∧ w = w' :=
  trimRight_n _ _ w (by rw [B_toList]; cases l with | nil => exact absurd rfl hne | cons x l => rfl) (trimRightByte_c l w hl)
theorem rz_eq (l : List UInt8) : rz l = Dg.rz' l := rfl
theorem dd_short {u : Nat} (h : u ≤ 9999) : (Lib.decDigits u).length ≤ 5 := by
  by_cases h0 : u = 0
  · subst h0; rw [Dg.dd_small (by decide)]; decide
  · have dl := Dg.dd_len (u := u) (by omega)
    apply Nat.le_of_not_lt
    intro hc
    have : 10 ^ 5 ≤ 10 ^ ((Lib.decDigits u).length - 1) := Nat.pow_le_pow_right (by decide) (by omega)
    omega
theorem itoa_len {n : Int} (h1 : -9999 ≤ n) (h2 : n ≤ 9999) : (Lib.itoa n).length ≤ 100 := by
  unfold Lib.itoa
  split
  · have := dd_short (u := n.natAbs) (by omega)
    rw [List.length_cons]; omega
  · have := dd_short (u := n.toNat) (by omega)
    omega
set_option maxRecDepth 100000 in
set_option maxHeartbeats 2000000 in
theorem plainSize_c (s E m : Nat) (w : World) (ht : Hid (Tb w)) (hs : s = E * 4503599627370496 + m) (h0 : 0 < m) (h1 : m < 9007199254740992) (h2 : E = 0 ∨ 4503599627370496 ≤ m) (hE : E ≤ 2045) :
    Calls Tryd.prog 16 #[.int .u64 s] w fun e w' => ∃ (t : Int) (W L H n : Nat) (X : Bool), View E m t W X L H ∧ Rd.Srt W X L H n ∧ e = .returned (.string (B (ptx (Lib.decDigits n) (t + (Lib.decDigits n).length - 1)))) ∧ Below w.heap.size w w' := by
  have hvo : Hid (Calls Tryd.prog 26 #[.int .u64 s] w fun e w' => ∃ (t : Int) (W L H : Nat) (X : Bool), e = .returned (.agg #[.int .i64 t, .int .u64 (W : Int), .bool X, .int .u64 (L : Int), .int .u64 (H : Int)]) ∧ View E m t W X L H ∧ Below w.heap.size w w') := viewOf_c s E m w hs h0 h1 h2 hE
  clear hs h2 hE
  go_enter Tryd.func16, Tryd.ntmps16
  go_wp2_with fail
  refine hvo.out.mono ?_
  rintro e w1 ⟨t, W, L, H, X, rfl, hv, hb1⟩
  have b1 : Hid (Below w.heap.size w w1) := hb1
  have hvH : Hid (View E m t W X L H) := hv
  have tl := hv.t1
  have tu := hv.t2
  have hWl := hv.hi
  have hfd := view_found h0 h1 hv
  have hfH : Hid (Rd.nst W X L H 10 ≠ none) := hfd
  clear hb1 hv hfd
  go_wp2_with fail
  generalize hX : w1.alloc (.cells #[.int .i64 t, .int .u64 (W : Int), .bool X, .int .u64 (L : Int), .int .u64 (H : Int)] 52) = Y
  have kv : Hid (Cells Y w1.heap.size [.int .i64 t, .int .u64 (W : Int), .bool X, .int .u64 (L : Int), .int .u64 (H : Int)]) := by rw [← hX]; exact Cells.new _ _ _
  have bx : Hid (Below w.heap.size w Y) := by rw [← hX]; exact b1.out.alloc b1.out.size _
  clear hX b1
  refine (shortest_c t W L H X Y (by omega) hfH.out).mono ?_
  rintro e w2 ⟨n, rfl, hsr, hb2⟩
  have hsH : Hid (Rd.Srt W X L H n) := hsr
  obtain ⟨nl, nu⟩ := srt_bounds hsr hvH.out.lo hvH.out.hi
  have k2 : Hid (Cells w2 w1.heap.size [.int .i64 t, .int .u64 (W : Int), .bool X, .int .u64 (L : Int), .int .u64 (H : Int)]) := kv.out.below hb2
  have b2 : Hid (Below w.heap.size w w2) := bx.out.trans (hb2.mono bx.out.size)
  clear hb2 kv bx hsr
  have dl := Dg.dd_len (u := n) (by omega)
  have hd20 : (Lib.decDigits n).length ≤ 19 := by
    apply Nat.le_of_not_lt
    intro hc
    have : 10 ^ 19 ≤ 10 ^ ((Lib.decDigits n).length - 1) := Nat.pow_le_pow_right (by decide) (by omega)
    omega
  have hrn : rz (Lib.decDigits n) ≠ [] := Dg.rz_ne (by omega)
  have hdn := Dg.dd_ne n
  go_wp2_with fail
  refine (fmtUint_c n (by omega) (by omega) w2 (ht.out.below b2.out).tab).mono ?_
  rintro e w3 ⟨rfl, hb3⟩
  have k3 : Hid (Cells w3 w1.heap.size [.int .i64 t, .int .u64 (W : Int), .bool X, .int .u64 (L : Int), .int .u64 (H : Int)]) := k2.out.below hb3
  have b3 : Hid (Below w.heap.size w w3) := b2.out.trans (hb3.mono b2.out.size)
  have v0 := k3.out.at' 0 _ rfl
  clear hb3 k2 b2
  obtain ⟨l, hl⟩ : ∃ l, Lib.decDigits n = l := ⟨_, rfl⟩
  rw [hl] at hd20 hrn hdn dl ⊢
  have hlH : Hid (Lib.decDigits n = l) := hl
  clear hl
  have hsz : (B l).size = l.length := B_size _
  have hl1 := dl.2.2
  clear dl
  go_wp2_with fail
  refine (itoa_c (t + (l.length : Int) - 1) (by omega) (by omega) w3 (ht.out.below b3.out).tab).mono ?_
  rintro e w4 ⟨rfl, hb4⟩
  have b4 : Hid (Below w.heap.size w w4) := b3.out.trans (hb4.mono b3.out.size)
  clear hb4 k3 b3 v0
  obtain ⟨x, hx⟩ : ∃ x, Lib.itoa (t + (l.length : Int) - 1) = x := ⟨_, rfl⟩
  have hxl : x.length ≤ 100 := by rw [← hx]; exact itoa_len (by omega) (by omega)
  rw [hx]
  go_wp2_with fail
  refine (trimRight_c l w4 (by omega) hdn).mono ?_
  rintro e w5 ⟨rfl, rfl⟩
  obtain ⟨r, hr⟩ : ∃ r, rz l = r := ⟨_, rfl⟩
  have hrl : r.length ≤ 19 := by rw [← hr, rz_eq]; have := Dg.rz_len l; omega
  rw [hr] at hrn ⊢
  have hpt : Hid (ptx (Lib.decDigits n) (t + (Lib.decDigits n).length - 1) = (if r.length = 1 then r else r.take 1 ++ [46] ++ r.drop 1) ++ [101] ++ x) := (by
    unfold ptx; rw [hlH.out, hr, hx] : ptx (Lib.decDigits n) (t + (Lib.decDigits n).length - 1) = (if r.length = 1 then r else r.take 1 ++ [46] ++ r.drop 1) ++ [101] ++ x)
  have hrp : 0 < r.length := List.length_pos_iff.2 hrn
  have z1 : (B r).size = r.length := B_size _
  have z2 : (B x).size = x.length := B_size _
  clear hr hx hsz
  by_cases c1 : r.length = 1
  · have c1' : ((r.length : Int) == 1) = true := beq_iff_eq.2 (by omega)
    have hfin : Hid (B r ++ (⟨#[101]⟩ : ByteArray) ++ B x = B (ptx (Lib.decDigits n) (t + (Lib.decDigits n).length - 1))) := (by
      rw [hpt.out, if_pos c1, show (⟨#[101]⟩ : ByteArray) = B [101] from rfl, B_append, B_append] : B r ++ (⟨#[101]⟩ : ByteArray) ++ B x = B (ptx (Lib.decDigits n) (t + (Lib.decDigits n).length - 1)))
    have z3 : (B r ++ (⟨#[101]⟩ : ByteArray)).size = r.length + 1 := by rw [show (⟨#[101]⟩ : ByteArray) = B [101] from rfl, B_append, B_size]; simp
    clear c1
    go_wp2_with fail
    go_ret
    exact ⟨t, W, L, H, n, X, hvH.out, hsH.out, by rw [← hfin.out]; rfl, b4.out⟩
  · have c1' : ((r.length : Int) == 1) = false := beq_eq_false_iff_ne.2 (by omega)
    obtain ⟨R, hR⟩ : ∃ R, B r = R := ⟨_, rfl⟩
    obtain ⟨s1, hs1⟩ : ∃ s1, B (r.take 1) = s1 := ⟨_, rfl⟩
    obtain ⟨s2, hs2⟩ : ∃ s2, B (r.drop 1) = s2 := ⟨_, rfl⟩
    obtain ⟨s3, hs3⟩ : ∃ s3, B (r.take 1 ++ [46]) = s3 := ⟨_, rfl⟩
    obtain ⟨s4, hs4⟩ : ∃ s4, B (r.take 1 ++ [46] ++ r.drop 1) = s4 := ⟨_, rfl⟩
    obtain ⟨s5, hs5⟩ : ∃ s5, B (r.take 1 ++ [46] ++ r.drop 1 ++ [101]) = s5 := ⟨_, rfl⟩
    obtain ⟨s6, hs6⟩ : ∃ s6, B x = s6 := ⟨_, rfl⟩
    obtain ⟨s7, hs7⟩ : ∃ s7, B (r.take 1 ++ [46] ++ r.drop 1 ++ [101] ++ x) = s7 := ⟨_, rfl⟩
    obtain ⟨K, hK⟩ : ∃ K, r.length = K := ⟨_, rfl⟩
    have zR : R.size = K := by rw [← hR, B_size, hK]
    have e0 : R.extract 0 1 = s1 := by rw [← hR, B_pre, hs1]
    have e1 : R.extract 1 K = s2 := by rw [← zR, ← hR, B_suf, hs2]
    have g1 : s1 ++ (⟨#[46]⟩ : ByteArray) = s3 := by rw [← hs1, ← hs3]; exact B_append _ [46]
    have g2 : s3 ++ s2 = s4 := by rw [← hs3, ← hs2, ← hs4]; exact B_append _ _
    have g3 : s4 ++ (⟨#[101]⟩ : ByteArray) = s5 := by rw [← hs4, ← hs5]; exact B_append _ [101]
    have g4 : s5 ++ s6 = s7 := by rw [← hs5, ← hs6, ← hs7]; exact B_append _ _
    have y1 : s1.size = 1 := by rw [← hs1, B_size, List.length_take]; omega
    have y2 : s2.size = K - 1 := by rw [← hs2, B_size, List.length_drop, hK]
    have y3 : s3.size = 2 := by rw [← hs3, B_size, List.length_append, List.length_take]; simp; omega
    have y4 : s4.size = K + 1 := by rw [← hs4, B_size, List.length_append, List.length_append, List.length_take, List.length_drop, hK]; simp; omega
    have y5 : s5.size = K + 2 := by rw [← hs5, B_size, List.length_append, List.length_append, List.length_append, List.length_take, List.length_drop, hK]; simp; omega
    have y6 : s6.size ≤ 100 := by rw [← hs6, B_size]; exact hxl
    have y7 : s7.size ≤ 200 := by rw [← hs7, B_size, List.length_append, List.length_append, List.length_append, List.length_append, List.length_take, List.length_drop, hK]; simp; omega
    have hK1 : (1 : Int) ≤ (K : Int) := by omega
    have hK2 : 1 ≤ K := by omega
    have hK3 : K ≤ 19 := by omega
    have hfin : Hid (s7 = B (ptx (Lib.decDigits n) (t + (Lib.decDigits n).length - 1))) := (by
      rw [hpt.out, if_neg c1, ← hs7] : s7 = B (ptx (Lib.decDigits n) (t + (Lib.decDigits n).length - 1)))
    have c2' : ((K : Int) == 1) = false := by rw [← hK]; exact c1'
    rw [hR, hs6]
    clear c1 c1' hR hs1 hs2 hs3 hs4 hs5 hs6 hs7 hK hpt hlH hd20 hl1 hdn hrn hrl hrp z1 z2 hxl
    go_wp2_with fail
    go_quiet (fail)
    go_wp2_with fail
    go_ret
    exact ⟨t, W, L, H, n, X, hvH.out, hsH.out, by rw [← hfin.out]; rfl, below_drewN b4.out _⟩
theorem ptx_len {E m : Nat} {t : Int} {W L H n : Nat} {X : Bool} (v : View E m t W X L H) (h : Rd.Srt W X L H n) : (ptx (Lib.decDigits n) (t + (Lib.decDigits n).length - 1)).length ≤ 200 := by
  obtain ⟨nl, nu⟩ := srt_bounds h v.lo v.hi
  have dl := Dg.dd_len (u := n) (by omega)
  have hd20 : (Lib.decDigits n).length ≤ 19 := by
    apply Nat.le_of_not_lt
    intro hc
    have : 10 ^ 19 ≤ 10 ^ ((Lib.decDigits n).length - 1) := Nat.pow_le_pow_right (by decide) (by omega)
    omega
  have t1 := v.t1
  have t2 := v.t2
  have hi := itoa_len (n := t + (Lib.decDigits n).length - 1) (by omega) (by omega)
  have hr := Dg.rz_len (Lib.decDigits n)
  rw [← rz_eq] at hr
  unfold ptx
  rw [List.length_append, List.length_append]
  split
  · simp; omega
  · rw [List.length_append, List.length_append, List.length_take, List.length_drop]; simp; omega
/-- the plain text of a float's bits -/
def PT (b : Nat) (txt : List UInt8) : Prop :=
  if b = 9221120237041090560 then txt = [110, 97, 110] else if b = 9218868437227405312 then txt = [105, 110, 102] else if b = 18442240474082181120 then txt = [45, 105, 110, 102]
  else if b = 0 then txt = [48, 101, 48] else if b = 9223372036854775808 then txt = [45, 48, 101, 48]
  else ∃ (E m : Nat) (t : Int) (W L H n : Nat) (X : Bool), b % 9223372036854775808 = E * 4503599627370496 + m ∧ 0 < m ∧ m < 9007199254740992 ∧ (E = 0 ∨ 4503599627370496 ≤ m) ∧ View E m t W X L H ∧ Rd.Srt W X L H n ∧ txt = (if 9223372036854775808 ≤ b then [45] else []) ++ ptx (Lib.decDigits n) (t + (Lib.decDigits n).length - 1)
theorem size_split {z : Nat} (h0 : 0 < z) (h : z < 9218868437227405312) : ∃ E m, z = E * 4503599627370496 + m ∧ 0 < m ∧ m < 9007199254740992 ∧ (E = 0 ∨ 4503599627370496 ≤ m) ∧ E ≤ 2045 := by
  by_cases c : z < 9007199254740992
  · exact ⟨0, z, by omega, h0, c, .inl rfl, by omega⟩
  · exact ⟨z / 4503599627370496 - 1, z % 4503599627370496 + 4503599627370496, by omega, by omega, by omega, .inr (by omega), by omega⟩
set_option maxRecDepth 100000 in
set_option maxHeartbeats 2000000 in
theorem plain_c (x : Nat) (w : World) (ht : Hid (Tb w)) (hx : x < 18446744073709551616) :
    Calls Tryd.prog 6 #[.float .f64 x] w fun e w' => ∃ txt, e = .returned (.string (B txt)) ∧ PT (bt x) txt ∧ Below w.heap.size w w' := by
  have hcl : Hid (Calls Tryd.prog 14 #[.float .f64 x] w fun e w' => e = .returned (.int .i64 (cls x)) ∧ w = w') := class_c x w hx
  have hbt : Hid (Calls Tryd.prog 15 #[.float .f64 x] w fun e w' => e = .returned (.int .u64 (bt x : Nat)) ∧ w = w') := bits_c x w hx
  have hbl := bt_lt hx
  have hcls : cls x = if bt x < 9223372036854775808 then cab (bt x) else 9 - cab (bt x % 9223372036854775808) := rfl
  have hnan : bt x % 9223372036854775808 ≤ 9218868437227405312 ∨ bt x = 9221120237041090560 := by
    unfold bt; split
    · right; rfl
    · left; omega
  rw [hcls] at hcl
  clear hcls
  generalize bt x = b at *
  by_cases c1 : b = 9221120237041090560
  · have hv : (if b < 9223372036854775808 then cab b else 9 - cab (b % 9223372036854775808)) = 9 := by rw [c1]; decide
    have hP : Hid (PT b [110, 97, 110]) := (by unfold PT; rw [if_pos c1] : PT b [110, 97, 110])
    rw [hv] at hcl
    clear c1 hv
    go_enter Tryd.func6, Tryd.ntmps6
    go_wp2_with fail
    refine hcl.out.mono ?_
    rintro e w' ⟨rfl, rfl⟩
    go_wp2_with fail
    go_ret
    exact ⟨_, rfl, hP.out, Below.refl _ _⟩
  by_cases c2 : b = 9218868437227405312
  · have hv : (if b < 9223372036854775808 then cab b else 9 - cab (b % 9223372036854775808)) = 8 := by rw [c2]; decide
    have hP : Hid (PT b [105, 110, 102]) := (by unfold PT; rw [if_neg c1, if_pos c2] : PT b [105, 110, 102])
    rw [hv] at hcl
    clear c1 c2 hv
    go_enter Tryd.func6, Tryd.ntmps6
    go_wp2_with fail
    refine hcl.out.mono ?_
    rintro e w' ⟨rfl, rfl⟩
    go_wp2_with fail
    go_ret
    exact ⟨_, rfl, hP.out, Below.refl _ _⟩
  by_cases c3 : b = 18442240474082181120
  · have hv : (if b < 9223372036854775808 then cab b else 9 - cab (b % 9223372036854775808)) = 1 := by rw [c3]; decide
    have hP : Hid (PT b [45, 105, 110, 102]) := (by unfold PT; rw [if_neg c1, if_neg c2, if_pos c3] : PT b [45, 105, 110, 102])
    rw [hv] at hcl
    clear c1 c2 c3 hv
    go_enter Tryd.func6, Tryd.ntmps6
    go_wp2_with fail
    refine hcl.out.mono ?_
    rintro e w' ⟨rfl, rfl⟩
    go_wp2_with fail
    go_ret
    exact ⟨_, rfl, hP.out, Below.refl _ _⟩
  by_cases c4 : b = 0
  · have hv : (if b < 9223372036854775808 then cab b else 9 - cab (b % 9223372036854775808)) = 5 := by rw [c4]; decide
    have hP : Hid (PT b [48, 101, 48]) := (by unfold PT; rw [if_neg c1, if_neg c2, if_neg c3, if_pos c4] : PT b [48, 101, 48])
    rw [hv] at hcl
    clear c1 c2 c3 c4 hv
    go_enter Tryd.func6, Tryd.ntmps6
    go_wp2_with fail
    refine hcl.out.mono ?_
    rintro e w' ⟨rfl, rfl⟩
    go_wp2_with fail
    go_ret
    exact ⟨_, rfl, hP.out, Below.refl _ _⟩
  by_cases c5 : b = 9223372036854775808
  · have hv : (if b < 9223372036854775808 then cab b else 9 - cab (b % 9223372036854775808)) = 4 := by rw [c5]; decide
    have hP : Hid (PT b [45, 48, 101, 48]) := (by unfold PT; rw [if_neg c1, if_neg c2, if_neg c3, if_neg c4, if_pos c5] : PT b [45, 48, 101, 48])
    rw [hv] at hcl
    clear c1 c2 c3 c4 c5 hv
    go_enter Tryd.func6, Tryd.ntmps6
    go_wp2_with fail
    refine hcl.out.mono ?_
    rintro e w' ⟨rfl, rfl⟩
    go_wp2_with fail
    go_ret
    exact ⟨_, rfl, hP.out, Below.refl _ _⟩
  · obtain ⟨z, hz⟩ : ∃ z, b % 9223372036854775808 = z := ⟨_, rfl⟩
    have z0 : 0 < z := by omega
    have z1 : z < 9218868437227405312 := by omega
    obtain ⟨E, m, hE, m0, m1, m2, E1⟩ := size_split z0 z1
    have hps := plainSize_c z E m w ht hE m0 m1 m2 E1
    have hx1 : bits .andNot .u64 (b : Int) 9223372036854775808 = (z : Int) := by rw [andNot_sign b hbl, hz]
    have hx2 := and_sign b hbl
    have hcv : ∃ q : Int, (if b < 9223372036854775808 then cab b else 9 - cab (b % 9223372036854775808)) = q ∧ q ≠ 9 ∧ q ≠ 8 ∧ q ≠ 1 ∧ q ≠ 5 ∧ q ≠ 4 := by
      refine ⟨_, rfl, ?_⟩
      rw [hz]
      unfold cab
      split <;> (try split) <;> (try split) <;> (try split) <;> (try split) <;> omega
    obtain ⟨q, hq, q9, q8, q1, q5, q4⟩ := hcv
    rw [hq] at hcl
    have g9 : (q == 9) = false := beq_eq_false_iff_ne.2 q9
    have g8 : (q == 8) = false := beq_eq_false_iff_ne.2 q8
    have g1 : (q == 1) = false := beq_eq_false_iff_ne.2 q1
    have g5 : (q == 5) = false := beq_eq_false_iff_ne.2 q5
    have g4 : (q == 4) = false := beq_eq_false_iff_ne.2 q4
    have hPT : Hid (∀ txt, (∃ (t : Int) (W L H n : Nat) (X : Bool), View E m t W X L H ∧ Rd.Srt W X L H n ∧ txt = (if 9223372036854775808 ≤ b then [45] else []) ++ ptx (Lib.decDigits n) (t + (Lib.decDigits n).length - 1)) → PT b txt) := fun txt ⟨t, W, L, H, n, X, h1, h2, h3⟩ => by
      unfold PT
      rw [if_neg c1, if_neg c2, if_neg c3, if_neg c4, if_neg c5]
      exact ⟨E, m, t, W, L, H, n, X, hz.trans hE, m0, m1, m2, h1, h2, h3⟩
    have hpsH : Hid (Calls Tryd.prog 16 #[.int .u64 (z : Int)] w fun e w' => ∃ (t : Int) (W L H n : Nat) (X : Bool), View E m t W X L H ∧ Rd.Srt W X L H n ∧ e = .returned (.string (B (ptx (Lib.decDigits n) (t + (Lib.decDigits n).length - 1)))) ∧ Below w.heap.size w w') := hps
    by_cases hsg : 9223372036854775808 ≤ b
    · rw [if_neg (by omega)] at hx2
      have hsH : Hid (9223372036854775808 ≤ b) := hsg
      clear hz hE m0 m1 m2 E1 hps hq q9 q8 q1 q5 q4 c1 c2 c3 c4 c5 hnan z0 z1 hsg
      go_enter Tryd.func6, Tryd.ntmps6
      go_wp2_with fail
      refine hcl.out.mono ?_
      rintro e w' ⟨rfl, rfl⟩
      go_wp2_with fail
      refine hbt.out.mono ?_
      rintro e w' ⟨rfl, rfl⟩
      go_wp2_with fail
      refine hpsH.out.mono ?_
      rintro e w1 ⟨t, W, L, H, n, X, h1, h2, rfl, hb1⟩
      have hfin : Hid (PT b ([45] ++ ptx (Lib.decDigits n) (t + (Lib.decDigits n).length - 1))) := hPT.out _ ⟨t, W, L, H, n, X, h1, h2, by rw [if_pos hsH.out]⟩
      have hb1H : Hid (Below w.heap.size w w1) := hb1
      have hy := ptx_len h1 h2
      clear h1 h2 hb1 hPT hsH
      generalize ptx (Lib.decDigits n) (t + (Lib.decDigits n).length - 1) = y at *
      have z1 : (B y).size = y.length := B_size _
      have e1 : (⟨#[45]⟩ : ByteArray) ++ B y = B ([45] ++ y) := B_append [45] _
      go_wp2_with fail
      go_ret
      exact ⟨_, rfl, hfin.out, hb1H.out⟩
    · rw [if_pos (by omega)] at hx2
      have hsH : Hid (¬ 9223372036854775808 ≤ b) := hsg
      clear hz hE m0 m1 m2 E1 hps hq q9 q8 q1 q5 q4 c1 c2 c3 c4 c5 hnan z0 z1 hsg
      go_enter Tryd.func6, Tryd.ntmps6
      go_wp2_with fail
      refine hcl.out.mono ?_
      rintro e w' ⟨rfl, rfl⟩
      go_wp2_with fail
      refine hbt.out.mono ?_
      rintro e w' ⟨rfl, rfl⟩
      go_wp2_with fail
      refine hpsH.out.mono ?_
      rintro e w1 ⟨t, W, L, H, n, X, h1, h2, rfl, hb1⟩
      have hfin : Hid (PT b (ptx (Lib.decDigits n) (t + (Lib.decDigits n).length - 1))) := hPT.out _ ⟨t, W, L, H, n, X, h1, h2, by rw [if_neg hsH.out]; rfl⟩
      have hb1H : Hid (Below w.heap.size w w1) := hb1
      clear h1 h2 hb1 hPT hsH
      generalize ptx (Lib.decDigits n) (t + (Lib.decDigits n).length - 1) = y at *
      go_wp2_with fail
      go_ret
      exact ⟨_, rfl, hfin.out, hb1H.out⟩
end Go.Proofs.YtmfnjmgdindlaaaDoor
