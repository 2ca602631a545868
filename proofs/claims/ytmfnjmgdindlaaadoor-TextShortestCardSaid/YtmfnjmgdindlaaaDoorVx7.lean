/-
  The program's nearerHigh, nearest and shortest, at every view.
-/
import Derived.Test.YtmfnjmgdindlaaaDoorVw7
import Derived.Test.YtmfnjmgdindlaaaDoorPl2
namespace Go.Proofs.YtmfnjmgdindlaaaDoor
open Flo Go.RowKit
set_option maxRecDepth 100000 in
set_option maxHeartbeats 1000000 in
theorem nearerHigh_c (t : Int) (W L H g h : Nat) (X : Bool) (w : World) (hg0 : 0 < g) (hW : W < 18446744073709551616) (hgl : g < 18446744073709551616) (hgh : g / 2 = h) :
    Calls Tryd.prog 67 #[.agg #[.int .i64 t, .int .u64 (W : Int), .bool X, .int .u64 (L : Int), .int .u64 (H : Int)], .int .u64 g] w fun e w' => e = .returned (.bool (Rd.nh W X g)) ∧ Below w.heap.size w w' := by
  have hgI : ((g : Int) == 0) = false := beq_eq_false_iff_ne.2 (by omega)
  have hh : (g : Int) / 2 = (h : Int) := by omega
  obtain ⟨r, hr⟩ : ∃ r, W % g = r := ⟨_, rfl⟩
  obtain ⟨q, hq⟩ : ∃ q, W / g = q := ⟨_, rfl⟩
  have hrI : (W : Int) % (g : Int) = (r : Int) := by rw [← hr]; exact (Int.natCast_emod W g).symm
  have hqI : (W : Int) / (g : Int) = (q : Int) := by rw [← hq]; exact (Int.natCast_ediv W g).symm
  have hv : Hid (Rd.nh W X g = if r = h ∧ X = true then q % 2 == 1 else decide (h ≤ r)) := (by unfold Rd.nh; rw [hr, hq, hgh] : Rd.nh W X g = _)
  have hrl : r < 18446744073709551616 := by rw [← hr]; have := Nat.mod_lt W hg0; omega
  have hql : q ≤ W := by rw [← hq]; exact Nat.div_le_self _ _
  clear hr hq hgh
  by_cases c : r = h
  · have c' : ((r : Int) == (h : Int)) = true := beq_iff_eq.2 (by omega)
    have cH : Hid (r = h) := c
    clear c
    cases X
    · have hv2 : Hid (Rd.nh W false g = true) := (by rw [hv.out, if_neg (by simp), decide_eq_true_eq, cH.out]; exact Nat.le_refl _ : Rd.nh W false g = true)
      rw [hv2.out]
      have cge : (r : Int) ≥ (h : Int) := by have := cH.out; omega
      go_enter Tryd.func67, Tryd.ntmps67
      go_wp2_with fail
      go_ret
      exact ⟨rfl, (Below.refl _ _).alloc (Nat.le_refl _) _⟩
    · have hv2 : Hid (Rd.nh W true g = (q % 2 == 1)) := (by rw [hv.out, if_pos ⟨cH.out, rfl⟩] : Rd.nh W true g = (q % 2 == 1))
      have e1 : Hid (((q : Int) % 2 == 1) = (q % 2 == 1)) := (by
        by_cases hz : q % 2 = 1
        · rw [hz, beq_iff_eq.2 (show (q : Int) % 2 = 1 by omega)]; rfl
        · rw [beq_eq_false_iff_ne.2 (show (q : Int) % 2 ≠ 1 by omega), beq_eq_false_iff_ne.2 hz] : ((q : Int) % 2 == 1) = (q % 2 == 1))
      go_enter Tryd.func67, Tryd.ntmps67
      go_wp2_with fail
      go_ret
      exact ⟨ret_bool (by rw [hv2.out, ← e1.out]), (Below.refl _ _).alloc (Nat.le_refl _) _⟩
  · have c' : ((r : Int) == (h : Int)) = false := beq_eq_false_iff_ne.2 (by omega)
    have hv2 : Hid (Rd.nh W X g = decide (h ≤ r)) := (by rw [hv.out, if_neg (fun e => c e.1)] : Rd.nh W X g = decide (h ≤ r))
    rw [hv2.out]
    have e1 : Hid (decide ((h : Int) ≤ (r : Int)) = decide (h ≤ r)) := (by simp : decide ((h : Int) ≤ (r : Int)) = decide (h ≤ r))
    clear c
    go_enter Tryd.func67, Tryd.ntmps67
    go_wp2_with fail
    go_ret
    exact ⟨rfl, (Below.refl _ _).alloc (Nat.le_refl _) _⟩
/-- what nearest hands back -/
def nsv : Option Nat → Nat | some n => n | none => 0
def nsb : Option Nat → Bool | some _ => true | none => false
set_option maxRecDepth 100000 in
set_option maxHeartbeats 1000000 in
theorem nearest_c (t : Int) (W L H g h : Nat) (X : Bool) (w : World) (hg0 : 0 < g) (hW : W < 2000000000000000000) (hgl : g < 2000000000000000000) (hgh : g / 2 = h) :
    Calls Tryd.prog 45 #[.agg #[.int .i64 t, .int .u64 (W : Int), .bool X, .int .u64 (L : Int), .int .u64 (H : Int)], .int .u64 g] w fun e w' => e = .returned (.tuple #[.int .u64 (nsv (Rd.nst W X L H g) : Nat), .bool (nsb (Rd.nst W X L H g))]) ∧ Below w.heap.size w w' := by
  have hgI : ((g : Int) == 0) = false := beq_eq_false_iff_ne.2 (by omega)
  obtain ⟨q, hq⟩ : ∃ q, W / g = q := ⟨_, rfl⟩
  obtain ⟨lo, hlo⟩ : ∃ lo, q * g = lo := ⟨_, rfl⟩
  have hqI : (W : Int) / (g : Int) = (q : Int) := by rw [← hq]; exact (Int.natCast_ediv W g).symm
  have hloI : (q : Int) * (g : Int) = (lo : Int) := by rw [← hlo]; exact (Int.natCast_mul q g).symm
  have hll : lo ≤ W := by rw [← hlo, ← hq]; exact Nat.div_mul_le_self _ _
  have hql : q ≤ W := by rw [← hq]; exact Nat.div_le_self _ _
  have hnh := fun w => nearerHigh_c t W L H g h X w hg0 (by omega) (by omega) hgh
  generalize hb : Rd.nh W X g = b at hnh
  have hv : Hid (Rd.nst W X L H g = if L ≤ lo then (if lo + g ≤ H then (if b = true then some (lo + g) else some lo) else some lo) else if lo + g ≤ H then some (lo + g) else none) := (by
    unfold Rd.nst; rw [hq, hlo, hb] : Rd.nst W X L H g = _)
  have hnhH : Hid (∀ w : World, Calls Tryd.prog 67 #[.agg #[.int .i64 t, .int .u64 (W : Int), .bool X, .int .u64 (L : Int), .int .u64 (H : Int)], .int .u64 g] w fun e w' => e = .returned (.bool b) ∧ Below w.heap.size w w') := hnh
  clear hq hlo hgh hb hnh
  by_cases c1 : L ≤ lo
  · have c1' : (lo : Int) ≥ (L : Int) := by omega
    have c1'' : (L : Int) ≤ (lo : Int) := by omega
    by_cases c2 : lo + g ≤ H
    · have c2' : (lo : Int) + (g : Int) ≤ (H : Int) := by omega
      cases b
      · have hr : Hid (Rd.nst W X L H g = some lo) := (by rw [hv.out, if_pos c1, if_pos c2, if_neg (by decide)] : Rd.nst W X L H g = some lo)
        rw [hr.out]
        show Calls _ _ _ _ fun e w' => e = .returned (.tuple #[.int .u64 (lo : Int), .bool true]) ∧ _
        go_enter Tryd.func45, Tryd.ntmps45
        go_wp2_with fail
        go_quiet (fail)
        go_wp2_with fail
        refine (hnhH.out _).mono ?_
        rintro e w2 ⟨rfl, B2⟩
        go_wp2_with fail
        go_ret2
        exact ⟨rfl, (below_drewN ((Below.refl _ _).alloc (Nat.le_refl _) _) _).trans (B2.mono (by simp))⟩
      · have hr : Hid (Rd.nst W X L H g = some (lo + g)) := (by rw [hv.out, if_pos c1, if_pos c2, if_pos rfl] : Rd.nst W X L H g = some (lo + g))
        rw [hr.out]
        show Calls _ _ _ _ fun e w' => e = .returned (.tuple #[.int .u64 ((lo + g : Nat) : Int), .bool true]) ∧ _
        go_enter Tryd.func45, Tryd.ntmps45
        go_wp2_with fail
        go_quiet (fail)
        go_wp2_with fail
        refine (hnhH.out _).mono ?_
        rintro e w2 ⟨rfl, B2⟩
        go_wp2_with fail
        go_ret2
        exact ⟨by rw [Int.natCast_add]; rfl, (below_drewN ((Below.refl _ _).alloc (Nat.le_refl _) _) _).trans (B2.mono (by simp))⟩
    · have c2' : decide ((lo : Int) + (g : Int) ≤ (H : Int)) = false := decide_eq_false (by omega)
      have hr : Hid (Rd.nst W X L H g = some lo) := (by rw [hv.out, if_pos c1, if_neg c2] : Rd.nst W X L H g = some lo)
      rw [hr.out]
      show Calls _ _ _ _ fun e w' => e = .returned (.tuple #[.int .u64 (lo : Int), .bool true]) ∧ _
      go_enter Tryd.func45, Tryd.ntmps45
      go_wp2_with fail
      go_quiet (fail)
      go_wp2_with fail
      go_ret2
      exact ⟨rfl, below_drewN ((Below.refl _ _).alloc (Nat.le_refl _) _) _⟩
  · have c1' : decide ((lo : Int) ≥ (L : Int)) = false := decide_eq_false (by omega)
    have c1'' : decide ((L : Int) ≤ (lo : Int)) = false := decide_eq_false (by omega)
    by_cases c2 : lo + g ≤ H
    · have c2' : (lo : Int) + (g : Int) ≤ (H : Int) := by omega
      have hr : Hid (Rd.nst W X L H g = some (lo + g)) := (by rw [hv.out, if_neg c1, if_pos c2] : Rd.nst W X L H g = some (lo + g))
      rw [hr.out]
      show Calls _ _ _ _ fun e w' => e = .returned (.tuple #[.int .u64 ((lo + g : Nat) : Int), .bool true]) ∧ _
      go_enter Tryd.func45, Tryd.ntmps45
      go_wp2_with fail
      go_quiet (fail)
      go_wp2_with fail
      go_ret2
      exact ⟨by rw [Int.natCast_add]; rfl, below_drewN ((Below.refl _ _).alloc (Nat.le_refl _) _) _⟩
    · have c2' : decide ((lo : Int) + (g : Int) ≤ (H : Int)) = false := decide_eq_false (by omega)
      have hr : Hid (Rd.nst W X L H g = none) := (by rw [hv.out, if_neg c1, if_neg c2] : Rd.nst W X L H g = none)
      rw [hr.out]
      show Calls _ _ _ _ fun e w' => e = .returned (.tuple #[.int .u64 0, .bool false]) ∧ _
      go_enter Tryd.func45, Tryd.ntmps45
      go_wp2_with fail
      go_quiet (fail)
      go_wp2_with fail
      go_ret2
      exact ⟨rfl, below_drewN ((Below.refl _ _).alloc (Nat.le_refl _) _) _⟩
theorem pow_bounds {k : Nat} (h1 : 1 ≤ k) (h2 : k ≤ 17) : 10 ≤ 10 ^ (18 - k) ∧ 10 ^ (18 - k) ≤ 100000000000000000 := by
  have a : 10 ^ 1 ≤ 10 ^ (18 - k) := Nat.pow_le_pow_right (by decide) (by omega)
  have b : 10 ^ (18 - k) ≤ 10 ^ 17 := Nat.pow_le_pow_right (by decide) (by omega)
  omega
theorem nearest_o (t : Int) (W L H g : Nat) (X : Bool) (o : Option Nat) (w : World) (hg0 : 0 < g) (hW : W < 2000000000000000000) (hgl : g < 2000000000000000000) (ho : Rd.nst W X L H g = o) :
    Calls Tryd.prog 45 #[.agg #[.int .i64 t, .int .u64 (W : Int), .bool X, .int .u64 (L : Int), .int .u64 (H : Int)], .int .u64 g] w fun e w' => e = .returned (.tuple #[.int .u64 (nsv o : Nat), .bool (nsb o)]) ∧ Below w.heap.size w w' := by
  subst ho; exact nearest_c t W L H g (g / 2) X w hg0 hW hgl rfl
set_option maxRecDepth 100000 in
set_option maxHeartbeats 1000000 in
theorem shortest_c (t : Int) (W L H : Nat) (X : Bool) (w : World) (hW : W < 2000000000000000000) (hf : Rd.nst W X L H 10 ≠ none) :
    Calls Tryd.prog 28 #[.agg #[.int .i64 t, .int .u64 (W : Int), .bool X, .int .u64 (L : Int), .int .u64 (H : Int)]] w fun e w' => ∃ n : Nat, e = .returned (.int .u64 (n : Int)) ∧ Rd.Srt W X L H n ∧ Below w.heap.size w w' := by
  have hfH : Hid (Rd.nst W X L H 10 ≠ none) := hf
  clear hf
  go_enter Tryd.func28, Tryd.ntmps28
  go_wp2_with (go_at_call 43; refine (tens17 _).mono ?_; rintro e w' ⟨rfl, rfl⟩)
  generalize hX : w.alloc (.cells #[.int .i64 t, .int .u64 (W : Int), .bool X, .int .u64 (L : Int), .int .u64 (H : Int)] 52) = Y
  have kv : Hid (Cells Y w.heap.size [.int .i64 t, .int .u64 (W : Int), .bool X, .int .u64 (L : Int), .int .u64 (H : Int)]) := by rw [← hX]; exact Cells.new _ _ _
  have bw : Hid (Below w.heap.size w Y) := by rw [← hX]; exact (Below.refl _ _).alloc (Nat.le_refl _) _
  clear hX
  obtain ⟨o, ho⟩ : ∃ o, Rd.nst W X L H 100000000000000000 = o := ⟨_, rfl⟩
  have hoH : Hid (Rd.nst W X L H (10 ^ (18 - 1)) = o) := ho
  refine (nearest_o t W L H 100000000000000000 X o Y (by decide) hW (by decide) ho).mono ?_
  rintro e w1 ⟨rfl, hb1⟩
  have k1 : Hid (Cells w1 w.heap.size [.int .i64 t, .int .u64 (W : Int), .bool X, .int .u64 (L : Int), .int .u64 (H : Int)]) := kv.out.below hb1
  have b1 : Hid (Below w.heap.size w w1) := bw.out.trans (hb1.mono bw.out.size)
  clear hb1 kv bw ho
  go_wp2_with fail
  go_loopw [3, 4, 5] (fun sg sn sf wx => ∃ (k G : Nat) (o : Option Nat), 1 ≤ k ∧ k ≤ 17 ∧ sg = .int .u64 (G : Int) ∧ Hid (G = 10 ^ (18 - k)) ∧ sn = .int .u64 (nsv o : Nat) ∧ sf = .bool (nsb o) ∧ Hid (Rd.nst W X L H (10 ^ (18 - k)) = o) ∧ Hid (∀ j, 1 ≤ j → j < k → Rd.nst W X L H (10 ^ (18 - j)) = none) ∧ Hid (Cells wx w.heap.size [.int .i64 t, .int .u64 (W : Int), .bool X, .int .u64 (L : Int), .int .u64 (H : Int)]) ∧ Hid (Below w.heap.size w wx)) (fun sg _ _ _ => (intOf sg).toNat)
  case atStart => exact ⟨1, 100000000000000000, o, by decide, by decide, rfl, (by decide : 100000000000000000 = 10 ^ (18 - 1)), rfl, rfl, hoH, (fun j h1 h2 => by omega), k1, b1⟩
  case round =>
    clear hoH k1 b1
    obtain ⟨k, G, o, hk1, hk2, rfl, hG, rfl, rfl, ho, hnone, kc, bc⟩ := hrel
    cases o with
    | some n =>
      have hS : Hid (Rd.Srt W X L H n) := ⟨k, hk1, hk2, ho.out, hnone.out⟩
      have e1 : nsb (some n) = true := rfl
      have e2 : nsv (some n) = n := rfl
      rw [e1, e2]
      go_wp2_with fail
      go_ret
      exact ⟨n, rfl, hS.out, bc.out⟩
    | none =>
      have e1 : nsb none = false := rfl
      have e2 : nsv none = 0 := rfl
      rw [e1, e2]
      have hk17 : k ≠ 17 := fun e => hfH.out (by have := ho.out; rw [e] at this; exact this)
      have hk16 : k ≤ 16 := by omega
      have pb := pow_bounds hk1 hk2
      have pb2 := pow_bounds (k := k + 1) (by omega) (by omega)
      obtain ⟨G2, hG2⟩ : ∃ G2, G2 = 10 ^ (18 - (k + 1)) := ⟨_, rfl⟩
      have hGG : G = 10 * G2 := by
        rw [hG.out, hG2, show 18 - k = (18 - (k + 1)) + 1 by omega, Nat.pow_succ]; omega
      have hGgt : (G : Int) > 10 := by rw [← hG2] at pb2; omega
      have hGq : (G : Int) / 10 = (G2 : Int) := by omega
      have hG2H : Hid (G2 = 10 ^ (18 - (k + 1))) := hG2
      have hGl : G ≤ 100000000000000000 := by rw [hG.out]; exact pb.2
      have hG20 : 0 < G2 := by rw [hG2]; exact Nat.pow_pos (by decide)
      have hG2l : G2 < G := by omega
      obtain ⟨o2, ho2⟩ : ∃ o2, Rd.nst W X L H G2 = o2 := ⟨_, rfl⟩
      have ho2H : Hid (Rd.nst W X L H (10 ^ (18 - (k + 1))) = o2) := (by rw [← hG2]; exact ho2 : Rd.nst W X L H (10 ^ (18 - (k + 1))) = o2)
      have hno2 : Hid (∀ j, 1 ≤ j → j < k + 1 → Rd.nst W X L H (10 ^ (18 - j)) = none) := fun j j1 j2 => by
        by_cases hj : j = k
        · rw [hj]; exact ho.out
        · exact hnone.out j j1 (by omega)
      have hnr := fun w => nearest_o t W L H G2 X o2 w hG20 hW (by omega) ho2
      have v0 := kc.out.at' 0 _ rfl
      have v1 := kc.out.at' 1 _ rfl
      have v2 := kc.out.at' 2 _ rfl
      have v3 := kc.out.at' 3 _ rfl
      have v4 := kc.out.at' 4 _ rfl
      clear pb pb2 hG2 hGG ho2 hG hnone hk17 ho
      go_wp2_with fail
      refine (hnr _).mono ?_
      rintro e w2 ⟨rfl, hb2⟩
      have k2 : Hid (Cells w2 w.heap.size [.int .i64 t, .int .u64 (W : Int), .bool X, .int .u64 (L : Int), .int .u64 (H : Int)]) := kc.out.below hb2
      have b2 : Hid (Below w.heap.size w w2) := bc.out.trans (hb2.mono bc.out.size)
      clear hb2 kc bc v0 v1 v2 v3 v4 hnr
      go_wp2_with fail
      go_roundw
      case rel => exact ⟨k + 1, G2, o2, by omega, by omega, rfl, hG2H, rfl, rfl, ho2H, hno2, k2, b2⟩
      case measure => simp [intOf]; omega
end Go.Proofs.YtmfnjmgdindlaaaDoor
