/-
  Package sums: the whole numbers of 34 words: add, less, subtract, length, digit, anyBelow, halved, roundsUp, rounded.
-/
import Derived.Test.YtmfnjmgdindlaaaWi9
import Derived.Deep.RegionHeld3
import Derived.Deep.RegionWith
import Derived.Deep.AppendSrc
namespace Go.Proofs.Ytmfnjmgdindlaaa
open Flo Go.RowKit Ari
/-- a whole number of 34 words at a block -/
def Bx (w : World) (g : Nat) (f : Nat → Nat) : Prop := Row 58 .u64 w g (.slice (some ⟨g, 0, none⟩) 34 34) 34 f
theorem Bx.cell {w : World} {g : Nat} {f : Nat → Nat} (h : Bx w g f) (i : Nat) (hi : i < 34) : w.cell? ⟨g, i, none⟩ = some (.int .u64 (f i : Nat)) := Row.cell h i hi
theorem Bx.free {w : World} {g : Nat} {f : Nat → Nat} (h : Bx w g f) (i : Nat) : w.frozen? ⟨g, i, none⟩ = false := Row.free h i
theorem Bx.put {w : World} {g : Nat} {f : Nat → Nat} (h : Bx w g f) (i x : Nat) : Bx (w.setCell ⟨g, i, none⟩ (.int .u64 (x : Nat))) g (fun j => if j = i then x else f j) ∧ w.grownBy (w.setCell ⟨g, i, none⟩ (.int .u64 (x : Nat))) (some g) := Row.put h i x
theorem Bx.congr {w : World} {g : Nat} {f f' : Nat → Nat} (h : Bx w g f) (e : ∀ j, j < 34 → f j = f' j) : Bx w g f' := Row.congr h e
theorem shift_w (q : Int) (h0 : 1 ≤ q) (h1 : q ≤ 2046) : wrap64 (wrap64 q - 1) = q - 1 := by
  have e : ∀ x : Int, 0 ≤ x → x ≤ 4096 → wrap64 x = x := fun x a b => by unfold wrap64; omega
  rw [e q (by omega) (by omega), e (q - 1) (by omega) (by omega)]
theorem add64_at {x y c lo hi : Nat} (hc : c ≤ 1) (h1 : lo = (x + y + c) % W64) (h2 : hi = (x + y + c) / W64) (w : World) : (callFunc 56 #[.int .u64 (x : Int), .int .u64 (y : Int), .int .u64 (c : Int)]).run Try.prog w =
    .ok (.value (.tuple #[.int .u64 (lo : Int), .int .u64 (hi : Int)])) w := by rw [h1, h2]; exact add64_r x y c hc w
theorem add64_az {x y lo hi : Nat} (h1 : lo = (x + y) % W64) (h2 : hi = (x + y) / W64) (w : World) : (callFunc 56 #[.int .u64 (x : Int), .int .u64 (y : Int), .int .u64 0]).run Try.prog w =
    .ok (.value (.tuple #[.int .u64 (lo : Int), .int .u64 (hi : Int)])) w := by rw [h1, h2]; exact add64_0 x y w
theorem add64_za {x c lo hi : Nat} (hc : c ≤ 1) (h1 : lo = (x + c) % W64) (h2 : hi = (x + c) / W64) (w : World) : (callFunc 56 #[.int .u64 (x : Int), .int .u64 0, .int .u64 (c : Int)]).run Try.prog w =
    .ok (.value (.tuple #[.int .u64 (lo : Int), .int .u64 (hi : Int)])) w := by rw [h1, h2]; exact add64_r x 0 c hc w
theorem Bx.drew {w : World} {g : Nat} {f : Nat → Nat} (h : Bx w g f) : Bx w.drew g f := h
theorem gb_drew {w w' : World} {r : Option Nat} (h : w.grownBy w' r) : w.grownBy w'.drew r := ⟨h.os, h.tape, h.output, h.size, h.block⟩
theorem lead_or (s : Nat) (h : s < 18446744073709551616) : bits .or .u64 (bits .and .u64 (s : Int) 4503599627370495) 4503599627370496 = ((s % 4503599627370496 + 4503599627370496 : Nat) : Int) := by
  have h1 := u64_and_nat s 4503599627370495 h (by decide)
  rw [show ((4503599627370495 : Nat) : Int) = 4503599627370495 from rfl, show (4503599627370495 : Nat) = 2 ^ 52 - 1 from rfl, Nat.and_two_pow_sub_one_eq_mod] at h1
  rw [h1]
  have h2 := u64_or_nat (s % 2 ^ 52) 4503599627370496 (by omega) (by decide)
  rw [show ((4503599627370496 : Nat) : Int) = 4503599627370496 from rfl] at h2
  rw [h2, show (4503599627370496 : Nat) = 2 ^ 52 * 1 from rfl, Nat.or_comm, ← Nat.two_pow_add_eq_or_of_lt (show s % 2 ^ 52 < 2 ^ 52 by omega)]
  omega
set_option maxRecDepth 100000 in
set_option maxHeartbeats 1000000 in
theorem add_i (n s m S r i g X : Nat) (w : World) (h : Hid (Bx w g (Wd.wd W64 n))) (hs : Hid (s < 9218868437227405312)) (hm : Hid (m < 9007199254740992)) (hr : r < 64) (hi : i ≤ 31)
    (hS1 : (S : Int) / 64 = (i : Int)) (hS2 : (S : Int) % 64 = (r : Int)) (hS : S ≤ 2045)
    (hk : Hid ((s < 4503599627370496 ∧ m = s ∧ S = 0) ∨ (¬ s < 4503599627370496 ∧ m = s % 4503599627370496 + 4503599627370496 ∧ S = s / 4503599627370496 - 1)))
    (hXH : Hid (Wi.X (m * 2 ^ r) i = X)) (hb : Hid (n + X < W64 ^ 34)) :
    Calls Try.prog 45 #[.pointer (some ⟨g, 0, none⟩), .int .u64 (s : Int)] w fun e w' => e = .returned (.tuple #[]) ∧ Bx w' g (Wd.wd W64 (n + X)) ∧ w.grownBy w' (some g) := by
  have c0 := h.out.cell i (by omega)
  have z0 := h.out.free i
  go_enter Try.func45, Try.ntmps45
  go_upto_if 11 with fail
  obtain ⟨bb, hbb⟩ : ∃ bb, decide ((4503599627370496 : Int) ≤ (s : Int)) = bb := ⟨_, rfl⟩
  have hbH : Hid (decide ((4503599627370496 : Int) ≤ (s : Int)) = bb) := hbb
  rw [hbb]
  clear hbb
  go_cut [4, 5] (fun sm sS wx => sm = .int .u64 (m : Int) ∧ sS = .int .i64 (S : Int) ∧ wx = w)
  case first =>
    rcases hk.out with ⟨hlt, e1, e2⟩ | ⟨hlt, e1, e2⟩
    · obtain rfl : bb = false := by rw [← hbH.out]; exact decide_eq_false (by omega)
      have e1' : Hid ((s : Int) = (m : Int)) := (by omega : (s : Int) = (m : Int))
      have e2' : Hid ((0 : Int) = (S : Int)) := (by omega : (0 : Int) = (S : Int))
      clear e1 e2 hk hlt hbH
      go_wp2_with fail
      go_meet
      case rel => exact ⟨congrArg _ e1'.out, congrArg _ e2'.out, rfl⟩
    · obtain rfl : bb = true := by rw [← hbH.out]; exact decide_eq_true (by omega)
      have e1' : bits .or .u64 (bits .and .u64 (s : Int) 4503599627370495) 4503599627370496 = (m : Int) := by
        have h2 := hs.out
        rw [e1]; exact lead_or s (by omega)
      have e2' : Hid (wrap64 (wrap64 ((s : Int) / 4503599627370496) - 1) = (S : Int)) := ((shift_w _ (by omega) (by have := hs.out; omega)).trans (by omega) : wrap64 (wrap64 ((s : Int) / 4503599627370496) - 1) = (S : Int))
      clear e1 e2 hk hlt hbH
      go_wp2_with fail
      go_meet
      case rel => exact ⟨rfl, congrArg _ e2'.out, rfl⟩
  case rest =>
    obtain ⟨rfl, rfl, rfl⟩ := hcut
    clear hk hbH
    go_wp2_with fail
    have hg := h.out
    obtain ⟨f1, f2⟩ := Wi.ad_0 n (m * 2 ^ r) i
    obtain ⟨k1, k2⟩ := Wi.shl_parts hm.out hr
    obtain ⟨f3, f4⟩ := Wi.ad_1 n (m * 2 ^ r) i k1
    rw [k2] at f3 f4
    have hc1 : Wd.ca W64 n (Wi.X (m * 2 ^ r) i) (i + 1) ≤ 1 := Wd.ca_le W64_0 _ _ _
    have hc2 : Hid (Wd.ca W64 n (Wi.X (m * 2 ^ r) i) (i + 2) ≤ 1) := Wd.ca_le W64_0 _ _ _
    have x1 := hg.cell (i + 1) (by omega)
    have sh : IntKind.u64.wrap ((m : Int) * 2 ^ r) = ((m * 2 ^ r % W64 : Nat) : Int) := by
      rw [show (m : Int) * 2 ^ r = ((m * 2 ^ r : Nat) : Int) by simp, wrapMod]; rfl
    have hX := hXH.out
    rw [hX] at f1 f2 f3 f4 hc1 hc2
    have q1 := fun w => add64_az (x := Wd.wd W64 n i) (y := m * 2 ^ r % W64) f1 f2 w
    have q2 := fun w => add64_at (x := Wd.wd W64 n (i + 1)) (y := m / 2 ^ (64 - r)) hc1 f3 f4 w
    have hlow : Hid (∀ j, j < i → Wd.wd W64 (n + X) j = Wd.wd W64 n j) := fun j hj => by rw [← hX]; exact Wi.ad_low n _ i hj
    have hstep : Hid (∀ j, i + 2 ≤ j → Wd.wd W64 (n + X) j = (Wd.wd W64 n j + Wd.ca W64 n X j) % W64 ∧ Wd.ca W64 n X (j + 1) = (Wd.wd W64 n j + Wd.ca W64 n X j) / W64) := fun j hj => by rw [← hX]; exact Wi.ad_2 n _ i k1 hj
    have hrest : Hid (∀ j k, i + 2 ≤ j → Wd.ca W64 n X j = 0 → j ≤ k → Wd.wd W64 (n + X) k = Wd.wd W64 n k) := fun j k hj h0 hk => by rw [← hX] at h0 ⊢; exact Wi.ad_rest n _ i k1 hj h0 hk
    have hin : Hid (∀ j, Wd.ca W64 n X j ≠ 0 → j < 34) := fun j hj => by rw [← hX] at hj; exact Wi.ca_in n _ i (by rw [hX]; exact hb.out) hj
    obtain ⟨R, hR⟩ : ∃ R : Nat, (64 : Int) - (r : Int) = (R : Int) := ⟨64 - r, by omega⟩
    have hRn : 64 - r = R := by omega
    have hRl : R ≤ 64 := by omega
    rw [hRn] at q2
    obtain ⟨I1, hI⟩ : ∃ I1 : Nat, Hid (i + 1 = I1) := ⟨_, rfl⟩
    have hI1 : (i : Int) + 1 = (I1 : Int) := by have := hI.out; omega
    have hI2 : I1 < 34 := by have := hI.out; omega
    obtain ⟨t, ht⟩ : ∃ t : Nat, (m : Int) / 2 ^ R = (t : Int) := ⟨m / 2 ^ R, by simp⟩
    have htn : m / 2 ^ R = t := by have : ((m / 2 ^ R : Nat) : Int) = (t : Int) := by rw [← ht]; simp
                                   omega
    rw [htn] at q2
    clear hRn htn
    obtain ⟨p1, p2⟩ := hg.put i (Wd.wd W64 (n + X) i)
    have p1H : Hid _ := p1
    have p2H : Hid _ := p2
    generalize hlo : Wd.wd W64 (n + X) i = lo at *
    have hloH : Hid (Wd.wd W64 (n + X) i = lo) := hlo
    obtain ⟨lo2, hlo2⟩ : ∃ v, Hid (Wd.wd W64 (n + X) (i + 1) = v) := ⟨_, rfl⟩
    obtain ⟨p3, p4⟩ := p1.drew.put (i + 1) lo2
    rw [hlo2.out] at q2
    have z1 := p1.drew.free (i + 1)
    have y1 := p1.drew.cell (i + 1) (by omega)
    rw [if_neg (by omega)] at y1
    have B2 : Hid (Bx (((wc.setCell ⟨g, i, none⟩ (.int .u64 (lo : Int))).drew.setCell ⟨g, i + 1, none⟩ (.int .u64 (lo2 : Int))).drew) g (fun j => if j < i + 2 then Wd.wd W64 (n + X) j else Wd.wd W64 n j)) := p3.drew.congr fun j hj => by
      by_cases a : j = i + 1
      · rw [if_pos a, if_pos (by omega), a, hlo2.out]
      · rw [if_neg a]
        by_cases b : j = i
        · rw [if_pos b, if_pos (by omega), b, hlo]
        · rw [if_neg b]
          by_cases c : j < i
          · rw [if_pos (by omega), hlow.out j c]
          · rw [if_neg (by omega)]
    have G2 : Hid (wc.grownBy (((wc.setCell ⟨g, i, none⟩ (.int .u64 (lo : Int))).drew.setCell ⟨g, i + 1, none⟩ (.int .u64 (lo2 : Int))).drew) (some g)) :=
      gb_trans (gb_drew p2) (gb_drew p4) (fun _ h => .inl h)
    generalize m * 2 ^ r % W64 = y at sh q1
    clear f1 f2 f3 f4 hg k1 k2 p1 p2 x1 p3 p4 hlo
    generalize Wd.wd W64 n i = x at c0 q1
    generalize hcc : Wd.ca W64 n X (i + 1) = cc at *
    obtain ⟨c2, hc2e⟩ : ∃ v, Hid (Wd.ca W64 n X (i + 2) = v) := ⟨_, rfl⟩
    rw [hc2e.out] at q2
    clear hcc hX hlow hb hXH
    rw [hI.out] at z1 y1 B2 G2 q2
    generalize Wd.wd W64 n I1 = x1 at q2 y1
    go_region
    clear q1 c0 z0 sh
    generalize (wc.setCell ⟨g, i, none⟩ (.int .u64 (lo : Int))).drew = w1 at *
    go_wp2_with fail
    go_region
    clear q2 z1 y1 hI1 hI2 hR ht
    generalize (w1.setCell ⟨g, I1, none⟩ (.int .u64 (lo2 : Int))).drew = w2 at *
    clear hI hlo2 hloH
    go_wp2_with fail
    go_loopw [6, 8] (fun si sc wr => ∃ (j c : Nat), i + 2 ≤ j ∧ j ≤ 34 ∧ si = .int .i64 (j : Int) ∧ sc = .int .u64 (c : Int) ∧ Hid (Wd.ca W64 n X j = c) ∧ Hid (Bx wr g (fun t => if t < j then Wd.wd W64 (n + X) t else Wd.wd W64 n t)) ∧ Hid (wc.grownBy wr (some g))) (fun si _ _ => 34 - (intOf si).toNat)
    case atStart => exact ⟨i + 2, c2, Nat.le_refl _, by omega, by go_num, rfl, hc2e, B2, G2⟩
    case round =>
      obtain ⟨j, c, hj, hj2, rfl, rfl, hce, Bj, Gj⟩ := hrel
      clear hc2 hc1 p1H p2H B2 G2 hc2e h
      by_cases h0 : c = 0
      · subst h0
        have hfin : Hid (Bx wr g (Wd.wd W64 (n + X))) := Bj.out.congr fun t ht => by
          by_cases a : t < j
          · rw [if_pos a]
          · rw [if_neg a, hrest.out j t hj hce.out (by omega)]
        clear hrest hstep hin hce Bj
        go_wp2_with fail
        go_end0
        exact ⟨rfl, hfin.out, Gj.out⟩
      · have h0' : ((c : Int) == 0) = false := beq_eq_false_iff_ne.2 (by omega)
        have h0'' : ((c : Int) != 0) = true := by simp [bne, h0']
        have hj3 : j < 34 := hin.out j (by rw [hce.out]; exact h0)
        have hj3' : (j : Int) < 34 := by omega
        obtain ⟨f1, f2⟩ := hstep.out j hj
        have hcl : c ≤ 1 := by rw [← hce.out]; exact Wd.ca_le W64_0 _ _ _
        rw [hce.out] at f1 f2
        have q := fun w => add64_za (x := Wd.wd W64 n j) hcl f1 f2 w
        obtain ⟨lo3, hlo3⟩ : ∃ v, Hid (Wd.wd W64 (n + X) j = v) := ⟨_, rfl⟩
        obtain ⟨c3, hc3⟩ : ∃ v, Hid (Wd.ca W64 n X (j + 1) = v) := ⟨_, rfl⟩
        rw [hlo3.out, hc3.out] at q
        have y1 := Bj.out.cell j hj3
        rw [if_neg (by omega)] at y1
        have z1 := Bj.out.free j
        obtain ⟨p1, p2⟩ := Bj.out.put j lo3
        have B3 : Hid (Bx ((wr.setCell ⟨g, j, none⟩ (.int .u64 (lo3 : Int))).drew) g (fun t => if t < j + 1 then Wd.wd W64 (n + X) t else Wd.wd W64 n t)) := p1.drew.congr fun t ht => by
          by_cases a : t = j
          · rw [if_pos a, if_pos (by omega), a, hlo3.out]
          · rw [if_neg a]
            by_cases b : t < j
            · rw [if_pos b, if_pos (by omega)]
            · rw [if_neg b, if_neg (by omega)]
        have G3 : Hid (wc.grownBy ((wr.setCell ⟨g, j, none⟩ (.int .u64 (lo3 : Int))).drew) (some g)) := gb_trans Gj.out (gb_drew p2) (fun _ h => .inl h)
        generalize Wd.wd W64 n j = x at q y1
        clear f1 f2 p1 p2 Bj Gj hce hlo3
        go_wp2_with fail
        go_region
        clear q y1 z1
        generalize (wr.setCell ⟨g, j, none⟩ (.int .u64 (lo3 : Int))).drew = w3 at *
        go_wp2_with fail
        go_roundw
        case rel => exact ⟨j + 1, c3, by omega, by omega, by go_num, rfl, hc3, B3, G3⟩
        case measure => simp [intOf]; omega
theorem add_c (n s g : Nat) (w : World) (h : Bx w g (Wd.wd W64 n)) (hs : s < 9218868437227405312) (hb : n + vr s < W64 ^ 34) :
    Calls Try.prog 45 #[.pointer (some ⟨g, 0, none⟩), .int .u64 (s : Int)] w fun e w' => e = .returned (.tuple #[]) ∧ Bx w' g (Wd.wd W64 (n + vr s)) ∧ w.grownBy w' (some g) := by
  have hm := mg_lt s
  have he : ex s ≤ 2045 := by unfold ex; omega
  have hX : Wi.X (mg s * 2 ^ (ex s % 64)) (ex s / 64) = vr s := Wi.X_eq (mg s) (ex s)
  refine add_i n s (mg s) (ex s) (ex s % 64) (ex s / 64) g (vr s) w h hs hm (by omega) (by omega) (by omega) (by omega) he ?_ hX hb
  by_cases c : s < 4503599627370496
  · exact .inl ⟨c, by unfold mg ex; omega, by unfold ex; omega⟩
  · exact .inr ⟨c, by unfold mg ex; omega, rfl⟩
set_option maxRecDepth 100000 in
set_option maxHeartbeats 1000000 in
theorem less_c (m n g1 g2 : Nat) (w : World) (h1 : Hid (Bx w g1 (Wd.wd W64 m))) (h2 : Hid (Bx w g2 (Wd.wd W64 n))) (hm : Hid (m < W64 ^ 34)) (hn : Hid (n < W64 ^ 34)) :
    Calls Try.prog 46 #[.pointer (some ⟨g1, 0, none⟩), .pointer (some ⟨g2, 0, none⟩)] w fun e w' => e = .returned (.bool (decide (m < n))) ∧ ∃ q, w' = w.drewN q := by
  go_enter Try.func46, Try.ntmps46
  go_wp2
  go_loopw [5] (fun si wr => ∃ (i q : Nat), i ≤ 34 ∧ si = .int .i64 ((i : Int) - 1) ∧ wr = w.drewN q ∧ Hid (m / W64 ^ i = n / W64 ^ i)) (fun si _ => (intOf si + 1).toNat)
  case atStart => exact ⟨34, 0, Nat.le_refl _, rfl, rfl, by show m / W64 ^ 34 = n / W64 ^ 34; rw [Nat.div_eq_of_lt hm.out, Nat.div_eq_of_lt hn.out]⟩
  case round =>
    obtain ⟨i, q, hi, rfl, rfl, hd⟩ := hrel
    by_cases h0 : i = 0
    · subst h0
      have hmn : Hid (m = n) := by have h := hd.out; rw [Nat.pow_zero, Nat.div_one, Nat.div_one] at h; exact h
      go_wp2
      go_ret
      refine ⟨ret_bool ?_, _, rfl⟩
      rw [hmn.out]; simp
    · obtain ⟨j, rfl⟩ : ∃ j, i = j + 1 := ⟨i - 1, by omega⟩
      have e1 := h1.out.cell j (by omega)
      have e2 := h2.out.cell j (by omega)
      clear h1 h2
      have hj : (j : Int) < 34 := by omega
      have hj0 : (((j + 1 : Nat) : Int) - 1) = (j : Int) := by omega
      have hxl := wd64 m j
      have hyl := wd64 n j
      have hlt : Hid (Wd.wd W64 m j < Wd.wd W64 n j → m < n) := fun h => Wd.cmp_lt hd.out h
      have hgt : Hid (Wd.wd W64 n j < Wd.wd W64 m j → n < m) := fun h => Wd.cmp_lt hd.out.symm h
      have heq : Hid (Wd.wd W64 m j = Wd.wd W64 n j → m / W64 ^ j = n / W64 ^ j) := fun h => Wd.cmp_eq hd.out h
      generalize Wd.wd W64 m j = x at e1 hxl hlt hgt heq
      generalize Wd.wd W64 n j = y at e2 hyl hlt hgt heq
      rw [hj0]
      clear hd hj0
      by_cases hxy : x = y
      · subst hxy
        have hnew : Hid (m / W64 ^ j = n / W64 ^ j) := heq.out rfl
        clear hlt hgt heq
        go_wp2_with fail
        go_quiet (fail)
        go_wp2
        go_roundw
        case rel => exact ⟨j, _, by omega, by go_num, rfl, hnew⟩
        case measure => simp [intOf]
      · have hxy' : ((x : Int) == (y : Int)) = false := beq_eq_false_iff_ne.2 (by omega)
        have hxy2 : ((x : Int) != (y : Int)) = true := by simp [bne, hxy']
        go_wp2_with fail
        go_quiet (fail)
        go_wp2_with fail
        go_quiet (fail)
        go_wp2
        go_ret
        refine ⟨ret_bool ?_, _, by rw [World.drewN_drewN, World.drewN_drewN]⟩
        have key : x < y ↔ m < n := ⟨hlt.out, fun h => by
          rcases Nat.lt_trichotomy x y with h3 | h3 | h3
          · exact h3
          · exact absurd h3 hxy
          · have := hgt.out h3; omega⟩
        exact decide_eq_decide.2 key
theorem sub64_at {x y b d c : Nat} (hx : x < 18446744073709551616) (hy : y < 18446744073709551616) (hb : b ≤ 1) (h1 : d + y + b = x + 18446744073709551616 * c) (h2 : d < 18446744073709551616) (h3 : c ≤ 1) (w : World) :
    (callFunc 57 #[.int .u64 (x : Int), .int .u64 (y : Int), .int .u64 (b : Int)]).run Try.prog w = .ok (.value (.tuple #[.int .u64 (d : Int), .int .u64 (c : Int)])) w := by
  obtain ⟨d', c', e, h⟩ := sub64_v x y b hx hy hb w
  obtain ⟨k1, k2, k3⟩ := h.out
  obtain rfl : d' = d := by omega
  obtain rfl : c' = c := by omega
  exact e
theorem sub_step64 {m n i : Nat} (hnm : n ≤ m) : Wd.wd W64 (m - n) i + Wd.wd W64 n i + Wd.br W64 m n i = Wd.wd W64 m i + 18446744073709551616 * Wd.br W64 m n (i + 1) := Wd.br_key W64_0 m n i hnm
set_option maxRecDepth 100000 in
set_option maxHeartbeats 1000000 in
theorem subtract_c (m n g g2 : Nat) (w : World) (h1 : Hid (Bx w g (Wd.wd W64 m))) (h2 : Hid (Bx w g2 (Wd.wd W64 n))) (hg : g2 ≠ g) (hnm : Hid (n ≤ m)) :
    Calls Try.prog 47 #[.pointer (some ⟨g, 0, none⟩), .pointer (some ⟨g2, 0, none⟩)] w fun e w' => e = .returned (.tuple #[]) ∧ Bx w' g (Wd.wd W64 (m - n)) ∧ w.grownBy w' (some g) := by
  have hg2 : Hid (g2 < w.heap.size) := World.block_lt_of_cell? w _ (h2.out.cell 0 (by omega))
  go_enter Try.func47, Try.ntmps47
  go_wp2
  go_loopw [4, 6] (fun sb si wr => ∃ (i b : Nat), i ≤ 34 ∧ si = .int .i64 (i : Int) ∧ sb = .int .u64 (b : Int) ∧ Hid (Wd.br W64 m n i = b) ∧ Hid (Bx wr g (fun j => if j < i then Wd.wd W64 (m - n) j else Wd.wd W64 m j)) ∧ Hid (w.grownBy wr (some g))) (fun _ si _ => 34 - (intOf si).toNat)
  case atStart => exact ⟨0, 0, Nat.zero_le _, rfl, rfl, Wd.br_zero _ _ _, h1.out.congr (fun j hj => by rw [if_neg (by omega)]), gb_refl _ _⟩
  case round =>
    obtain ⟨i, b, hi, rfl, rfl, hb, Bi, Gi⟩ := hrel
    by_cases hlt : i < 34
    · have hlt' : (i : Int) < 34 := by omega
      have c1 := Bi.out.cell i hlt
      rw [if_neg (by omega)] at c1
      have z1 := Bi.out.free i
      have c2 := Gi.out.cell (h2.out.cell i hlt) (by simpa using hg)
      have hb1 := Wd.br_le W64 m n i
      have hb2 := Wd.br_le W64 m n (i + 1)
      have hst := sub_step64 (i := i) hnm.out
      obtain ⟨d, hd⟩ : ∃ v, Hid (Wd.wd W64 (m - n) i = v) := ⟨_, rfl⟩
      obtain ⟨c, hc⟩ : ∃ v, Hid (Wd.br W64 m n (i + 1) = v) := ⟨_, rfl⟩
      have hdl := wd64 (m - n) i
      rw [hb.out] at hst hb1
      rw [hd.out, hc.out] at hst
      rw [hc.out] at hb2
      rw [hd.out] at hdl
      have q := fun w => sub64_at (wd64 m i) (wd64 n i) hb1 hst hdl hb2 w
      obtain ⟨p1, p2⟩ := Bi.out.put i d
      have B3 : Hid (Bx ((wr.setCell ⟨g, i, none⟩ (.int .u64 (d : Int))).drew) g (fun t => if t < i + 1 then Wd.wd W64 (m - n) t else Wd.wd W64 m t)) := p1.drew.congr fun t ht => by
        by_cases a : t = i
        · rw [if_pos a, if_pos (by omega), a, hd.out]
        · rw [if_neg a]
          by_cases b : t < i
          · rw [if_pos b, if_pos (by omega)]
          · rw [if_neg b, if_neg (by omega)]
      have G3 : Hid (w.grownBy ((wr.setCell ⟨g, i, none⟩ (.int .u64 (d : Int))).drew) (some g)) := gb_trans Gi.out (gb_drew p2) (fun _ h => .inl h)
      generalize Wd.wd W64 m i = x at q c1 hst
      generalize Wd.wd W64 n i = y at q c2 hst
      clear hst hdl hb1 hb2 p1 p2 Bi Gi hd hb
      go_wp2_with fail
      go_region
      clear q c1 c2 z1
      generalize (wr.setCell ⟨g, i, none⟩ (.int .u64 (d : Int))).drew = w3 at *
      go_wp2_with fail
      go_roundw
      case rel => exact ⟨i + 1, c, by omega, by go_num, rfl, hc, B3, G3⟩
      case measure => simp [intOf]; omega
    · have hlt' : decide ((i : Int) < 34) = false := decide_eq_false (by omega)
      have hfin : Hid (Bx wr g (Wd.wd W64 (m - n))) := Bi.out.congr fun t ht => by rw [if_pos (by omega)]
      clear Bi hb h1 h2
      go_wp2_with fail
      go_end0
      exact ⟨rfl, hfin.out, Gi.out⟩
end Go.Proofs.Ytmfnjmgdindlaaa
