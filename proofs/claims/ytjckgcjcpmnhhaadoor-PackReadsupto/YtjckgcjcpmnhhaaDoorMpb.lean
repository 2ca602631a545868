/-
  The nineteen sentinels are the five that package pack answers.
-/
import Derived.Test.YtjckgcjcpmnhhaaDoorPk5
import Derived.Test.YtjckgcjcpmnhhaaDoorNum
import Derived.Test.YtjckgcjcpmnhhaaDoorPb1
import Derived.Test.YtjckgcjcpmnhhaaDoorPkg
import Derived.Test.YtjckgcjcpmnhhaaDoorMls
import Derived.Test.YtjckgcjcpmnhhaaDoorAri
import Derived.Test.YtjckgcjcpmnhhaaDoorSgn
import Derived.Test.YtjckgcjcpmnhhaaDoorPw5
namespace Go.Proofs.YtjckgcjcpmnhhaaDoor
open Go.RowKit
theorem e5_of {w : World} {al : List Addr} (he : Errs w al) : E5 w al := by
  obtain ⟨a0, a1, a2, a3, a4, a5, a6, a7, a8, a9, a10, a11, a12, a13, a14, a15, a16, a17, a18, rfl⟩ := he.len
  obtain ⟨h0, h1, h2, h3, _, _, _, _, _, _, _, _, h12, _⟩ := he.sent
  exact ⟨h0, h1, h2, h3, h12⟩
end Go.Proofs.YtjckgcjcpmnhhaaDoor
/-
  The statements' own comparisons: same, sameList, same32; the document's SameList.
-/
namespace Go.Proofs.YtjckgcjcpmnhhaaDoor
open Flo Go.RowKit
set_option maxHeartbeats 400000 in
theorem lsame_t (a b c d : Nat) (w : World) (ha : a < 18446744073709551616) (hb : b < 18446744073709551616) (hc : c < 18446744073709551616) (hd : d < 18446744073709551616) (h1 : bt a = bt c) (h2 : bt b = bt d) :
    Calls Tryd.prog 58 #[.complex .f64 a b, .complex .f64 c d] w fun e w' => e = .returned (.bool true) ∧ w' = w := by
  have q1 : ((bt a : Int) == (bt c : Int)) = true := beq_iff_eq.2 (by rw [h1])
  have q2 : ((bt b : Int) == (bt d : Int)) = true := beq_iff_eq.2 (by rw [h2])
  clear h1 h2
  go_enter Tryd.func58, Tryd.ntmps58
  go_wp2_with (go_at_call 55; refine (rsame_c _ _ _ (by assumption) (by assumption)).mono ?_; rintro e w' ⟨rfl, rfl⟩)
  go_ret
  exact ⟨rfl, rfl⟩
set_option maxHeartbeats 1000000 in
theorem lsameList_0 (ao bo : Option Addr) (c d : Nat) (w : World) :
    Calls Tryd.prog 24 #[.slice ao 0 c, .slice bo 0 d] w fun e w' => e = .returned (.bool true) ∧ ∃ q, w' = w.drewN q := by
  go_enter Tryd.func24, Tryd.ntmps24
  go_wp2
  refine wp_loop_rounds 1 ?_
  rw [rounds_succ]
  go_wp2
  go_ret
  exact ⟨rfl, 0, rfl⟩
set_option maxHeartbeats 1000000 in
theorem lsameList_n (b1 o1 b2 o2 n c d : Nat) (xs ys : List (Nat × Nat)) (w : World) (hn : n ≤ 1048576)
    (h1 : Hid (∀ i, i < n → w.cell? ⟨b1, o1 + i, none⟩ = some (.complex .f64 (xs.getD i (0, 0)).1 (xs.getD i (0, 0)).2))) (h2 : Hid (∀ i, i < n → w.cell? ⟨b2, o2 + i, none⟩ = some (.complex .f64 (ys.getD i (0, 0)).1 (ys.getD i (0, 0)).2)))
    (hs : Hid (∀ i, i < n → bt (xs.getD i (0, 0)).1 = bt (ys.getD i (0, 0)).1 ∧ bt (xs.getD i (0, 0)).2 = bt (ys.getD i (0, 0)).2))
    (l1 : Hid (∀ i, i < n → (xs.getD i (0, 0)).1 < 18446744073709551616 ∧ (xs.getD i (0, 0)).2 < 18446744073709551616)) (l2 : Hid (∀ i, i < n → (ys.getD i (0, 0)).1 < 18446744073709551616 ∧ (ys.getD i (0, 0)).2 < 18446744073709551616)) :
    Calls Tryd.prog 24 #[.slice (some ⟨b1, o1, none⟩) n c, .slice (some ⟨b2, o2, none⟩) n d] w fun e w' => e = .returned (.bool true) ∧ ∃ q, w' = w.drewN q := by
  go_enter Tryd.func24, Tryd.ntmps24
  go_wp2
  go_loopw [14] (fun i wx => ∃ k q : Nat, k ≤ n ∧ i = .int .i64 k ∧ wx = w.drewN q) (fun i _ => n - (intOf i).toNat)
  case atStart => exact ⟨0, 0, Nat.zero_le _, rfl, rfl⟩
  case round =>
    obtain ⟨k, q, hk, rfl, rfl⟩ := hrel
    by_cases hlt : k < n
    · have hlt' : (k : Int) < (n : Int) := by omega
      have c1 : (w.drewN q).cell? ⟨b1, o1 + k, none⟩ = some (.complex .f64 (xs.getD k (0, 0)).1 (xs.getD k (0, 0)).2) := h1.out k hlt
      have c2 : (w.drewN q).cell? ⟨b2, o2 + k, none⟩ = some (.complex .f64 (ys.getD k (0, 0)).1 (ys.getD k (0, 0)).2) := h2.out k hlt
      have m1 := l1.out k hlt
      have m2 := l2.out k hlt
      have hq := hs.out k hlt
      generalize (xs.getD k (0, 0)).1 = xa at c1 m1 hq
      generalize (xs.getD k (0, 0)).2 = xb at c1 m1 hq
      generalize (ys.getD k (0, 0)).1 = ya at c2 m2 hq
      generalize (ys.getD k (0, 0)).2 = yb at c2 m2 hq
      have hsm : Hid (∀ W, Calls Tryd.prog 58 #[.complex .f64 xa xb, .complex .f64 ya yb] W fun e w' => e = .returned (.bool true) ∧ w' = W) := fun W => lsame_t xa xb ya yb W m1.1 m1.2 m2.1 m2.2 hq.1 hq.2
      clear m1 m2 hq
      generalize hwx : w.drewN q = wx at c1 c2 ⊢
      have hw : Hid (w.drewN q = wx) := hwx
      clear hwx
      go_wp2
      go_quiet ((go_at_call 58; exact Calls.quiet_of_same (hsm.out _)))
      go_wp2
      go_roundw
      case rel => exact ⟨k + 1, q + nq, by omega, by go_num, by rw [← hw.out, World.drewN_drewN]⟩
      case measure => simp [intOf]; omega
    · have hlt' : decide ((k : Int) < (n : Int)) = false := decide_eq_false (by omega)
      go_wp2
      go_ret
      exact ⟨rfl, q, rfl⟩
theorem qt_of {w w' : World} (h : ∃ q, w' = w.drewN q) : Qt w w' := by
  obtain ⟨q, rfl⟩ := h; exact qtN w q
theorem lsameList_t (F G : Nat → Prop) (xs ys : List (Nat × Nat)) (v1 v2 : Value) (w : World) (h1 : SrcL F w v1 (ccs xs)) (h2 : SrcL G w v2 (ccs ys)) (hn : xs.length ≤ 1048576) (hl : xs.length = ys.length)
    (hs : ∀ i, i < xs.length → bt (xs.getD i (0, 0)).1 = bt (ys.getD i (0, 0)).1 ∧ bt (xs.getD i (0, 0)).2 = bt (ys.getD i (0, 0)).2)
    (l1 : ∀ z ∈ xs, z.1 < 18446744073709551616 ∧ z.2 < 18446744073709551616) (l2 : ∀ z ∈ ys, z.1 < 18446744073709551616 ∧ z.2 < 18446744073709551616) :
    Calls Tryd.prog 24 #[v1, v2] w fun e w' => e = .returned (.bool true) ∧ Qt w w' := by
  obtain ⟨ao, c, rfl, h1⟩ := h1
  obtain ⟨bo, d, rfl, h2⟩ := h2
  rw [ccs_len] at h1 h2
  by_cases hz : xs = []
  · have hz2 : ys = [] := List.eq_nil_of_length_eq_zero (by rw [← hl, hz]; rfl)
    subst hz; subst hz2
    exact (lsameList_0 ao bo c d w).mono fun _ _ h => ⟨h.1, qt_of h.2⟩
  · have hz2 : ys ≠ [] := fun e => hz (List.eq_nil_of_length_eq_zero (by rw [hl, e]; rfl))
    rcases h1 with h1 | ⟨b1, o1, rfl, _, k1⟩
    · exact absurd (List.map_eq_nil_iff.1 h1) hz
    rcases h2 with h2 | ⟨b2, o2, rfl, _, k2⟩
    · exact absurd (List.map_eq_nil_iff.1 h2) hz2
    rw [ccs_len, ccs_len, ← hl]
    refine (lsameList_n b1 o1 b2 o2 xs.length c d xs ys w hn (fun i hi => ?_) (fun i hi => ?_) hs (fun i hi => l1 _ (getD_in hi _)) (fun i hi => l2 _ (getD_in (by omega) _))).mono fun _ _ h => ⟨h.1, qt_of h.2⟩
    · rw [k1 i hi]; simp [ccs, List.getD, hi]
    · have hi2 : i < ys.length := by omega
      rw [k2 i hi2]; simp [ccs, List.getD, hi2]
theorem srcL_rd {F : Nat → Prop} {w : World} {v : Value} {xs : List Nat} (h : SrcL F w v (fcs xs)) : Rd w v xs := by
  obtain ⟨ao, c, rfl, h⟩ := h
  rw [fcs_len] at h ⊢
  refine ⟨ao, c, rfl, fun hne => ?_⟩
  rcases h with h | ⟨q, o, rfl, _, k⟩
  · exact absurd (List.map_eq_nil_iff.1 h) hne
  · exact ⟨q, o, rfl, fun i hi => by rw [k i hi]; simp [fcs, List.getD, hi]⟩
theorem rsameList_t (F G : Nat → Prop) (xs ys : List Nat) (v1 v2 : Value) (w : World) (h1 : SrcL F w v1 (fcs xs)) (h2 : SrcL G w v2 (fcs ys)) (hn : xs.length ≤ 1048576) (hl : xs.length = ys.length)
    (hs : ∀ i, i < xs.length → bt (xs.getD i 0) = bt (ys.getD i 0)) (l1 : ∀ z ∈ xs, z < 18446744073709551616) (l2 : ∀ z ∈ ys, z < 18446744073709551616) :
    Calls Tryd.prog 66 #[v1, v2] w fun e w' => e = .returned (.bool true) ∧ Qt w w' := by
  have := rsameList_c v1 v2 xs ys w (srcL_rd h1) (srcL_rd h2) l1 l2 (by omega)
  rw [← sl_true hl hs] at this
  exact this.mono fun _ _ h => ⟨h.1, qt_of h.2⟩
/-- a float32 that is no NaN, as a float64 -/
theorem cv_run (a : Nat) (w : World) : (convert 137 61 (.float .f32 a)).run Tryd.prog w = (Conv.floatToFloat .f32 a .f64).run Tryd.prog w := by kernel_rfl
theorem fin_notInf {r : Nat} (h : Ari.fin r) : (Ieee.double.read r).isInfinity = false := by
  have h2 := h.2
  unfold Ieee.Format.read
  simp only [Ari.signWeight_d, Ari.binade_d, Ari.infRung_d]
  split
  · rfl
  · first | rfl | (rw [if_pos h2]; rfl)
theorem cv32 {a : Nat} (hn : ¬ 2139095040 < a % 2147483648) : ∃ X, X < 18446744073709551616 ∧ ∀ w : World, (convert 137 61 (.float .f32 a)).run Tryd.prog w = .ok (.float .f64 X) w := by
  have key : ∀ (s : Bool) (m t : Nat), m < 16777216 → t ≤ 253 → Ari.fin (Ieee.double.write (.number s m (-149 + (t : Int)))) := by
    intro s m t hm ht
    have e : (-149 + (t : Int)) = -1074 + ((925 + t : Nat) : Int) := by omega
    show Ari.fin (Ieee.double.nearest s m _)
    rw [e, ← Ari.nearest_scale]
    refine (Ari.near_rep s (a := m) (k := 925 + t) (by omega) ?_).1
    have h1 : m * 2 ^ (925 + t) < 2 ^ 24 * 2 ^ (925 + t) := Nat.mul_lt_mul_of_pos_right (by omega) (Nat.two_pow_pos _)
    rw [← Nat.pow_add] at h1
    refine Nat.lt_of_lt_of_le h1 (Nat.pow_le_pow_right (by decide) ?_)
    unfold Ari.tp; omega
  have num : ∀ (s : Bool) (m t : Nat), m < 16777216 → t ≤ 253 → Ieee.single.read a = .number s m (-149 + (t : Int)) → ∃ X, X < 18446744073709551616 ∧ ∀ w : World, (convert 137 61 (.float .f32 a)).run Tryd.prog w = .ok (.float .f64 X) w := by
    intro s m t hm ht hr
    have hf := key s m t hm ht
    refine ⟨_, hf.1, fun w => ?_⟩
    rw [cv_run]
    unfold Conv.floatToFloat
    rw [if_neg (by decide)]
    have : FloatKind.f32.decode a = .number s m (-149 + (t : Int)) := hr
    rw [this]
    have h2 : (FloatKind.f64.decode (FloatKind.f64.encode (.number s m (-149 + (t : Int))))).isInfinity = false := fin_notInf hf
    simp only [h2]
    rfl
  have hrd : Ieee.single.read a = (let neg := a / 2147483648 % 2 == 1; let rung := a % 2147483648; if rung < 8388608 then .number neg rung (-149) else if rung < 2139095040 then .number neg (8388608 + rung % 8388608) (-149 + (rung / 8388608 - 1 : Nat)) else if rung = 2139095040 then .infinity neg else .nan neg (rung - 2139095040)) := rfl
  simp only at hrd
  by_cases h1 : a % 2147483648 < 8388608
  · rw [if_pos h1] at hrd
    exact num (a / 2147483648 % 2 == 1) (a % 2147483648) 0 (by omega) (by decide) (by rw [hrd]; rfl)
  · rw [if_neg h1] at hrd
    by_cases h2 : a % 2147483648 < 2139095040
    · rw [if_pos h2] at hrd
      exact num _ _ _ (by omega) (by omega) hrd
    · rw [if_neg h2, if_pos (by omega)] at hrd
      refine ⟨Ieee.double.write (.infinity (a / 2147483648 % 2 == 1)), ?_, fun w => ?_⟩
      · cases (a / 2147483648 % 2 == 1) <;> decide
      · rw [cv_run]
        unfold Conv.floatToFloat
        rw [if_neg (by decide)]
        have : FloatKind.f32.decode a = .infinity (a / 2147483648 % 2 == 1) := hrd
        rw [this]
        rfl
theorem bt32_eq {a c : Nat} (h : bt32 a = bt32 c) : (2139095040 < a % 2147483648 ∧ 2139095040 < c % 2147483648) ∨ (¬ 2139095040 < a % 2147483648 ∧ a = c) := by
  by_cases h1 : 2139095040 < a % 2147483648
  · by_cases h2 : 2139095040 < c % 2147483648
    · exact .inl ⟨h1, h2⟩
    · have e1 : bt32 a = 2143289344 := if_pos h1
      have e2 : bt32 c = c := if_neg h2
      omega
  · have e1 : bt32 a = a := if_neg h1
    by_cases h2 : 2139095040 < c % 2147483648
    · have e2 : bt32 c = 2143289344 := if_pos h2
      omega
    · have e2 : bt32 c = c := if_neg h2
      exact .inr ⟨h1, by omega⟩
theorem ord32_nanl {n : Nat} (m : Nat) (h : 2139095040 < n % 2147483648) : Ieee.single.order n m = none := by
  unfold Ieee.Format.order
  have : ∃ s t, Ieee.single.read n = .nan s t := by
    unfold Ieee.Format.read
    simp only [sw_s, bi_s, ir_s]
    rw [if_neg (by omega), if_neg (by omega), if_neg (by omega)]
    exact ⟨_, _, rfl⟩
  obtain ⟨s, t, e⟩ := this
  rw [e]; exact dnan s t _
/-- what 'same32' asks of one part -/
def p32 (a c : Nat) : Prop := (∃ X, X < 18446744073709551616 ∧ (∀ w : World, (convert 137 61 (.float .f32 a)).run Tryd.prog w = .ok (.float .f64 X) w) ∧ a = c ∧ (FloatKind.f32.format.order a a == some .eq) = true) ∨
  ((FloatKind.f32.format.order a c == some .eq) = false ∧ (FloatKind.f32.format.order a a != some .eq) = true ∧ (FloatKind.f32.format.order c c != some .eq) = true)
theorem p32_of {a c : Nat} (h : bt32 a = bt32 c) : p32 a c := by
  rcases bt32_eq h with ⟨h1, h2⟩ | ⟨h1, rfl⟩
  · right
    have e1 : FloatKind.f32.format.order a c = none := ord32_nanl c h1
    have e2 : FloatKind.f32.format.order a a = none := ord32_nanl a h1
    have e3 : FloatKind.f32.format.order c c = none := ord32_nanl c h2
    rw [e1, e2, e3]; exact ⟨rfl, rfl, rfl⟩
  · left
    obtain ⟨X, hX, hr⟩ := cv32 h1
    have e : FloatKind.f32.format.order a a = some .eq := ord32_num h1
    exact ⟨X, hX, hr, rfl, by rw [e]; rfl⟩
set_option maxRecDepth 100000 in
set_option maxHeartbeats 4000000 in
theorem same32_t (a b c d : Nat) (w : World) (h1 : bt32 a = bt32 c) (h2 : bt32 b = bt32 d) :
    Calls Tryd.prog 61 #[.complex .f32 a b, .complex .f32 c d] w fun e w' => e = .returned (.bool true) ∧ w' = w := by
  have p1 := p32_of h1
  have p2 := p32_of h2
  clear h1 h2
  rcases p1 with ⟨X, hX, cX, rfl, o1⟩ | ⟨o1, o2, o3⟩
  · rcases p2 with ⟨Y, hY, cY, rfl, o4⟩ | ⟨o4, o5, o6⟩
    · go_enter Tryd.func61, Tryd.ntmps61
      go_wp2_with (first | (go_at_call 89; refine (signbit_c _ _ (by assumption)).mono ?_; rintro e w' ⟨rfl, rfl⟩) | fail)
      go_ret
      exact ⟨by simp, rfl⟩
    · go_enter Tryd.func61, Tryd.ntmps61
      go_wp2_with (first | (go_at_call 89; refine (signbit_c _ _ (by assumption)).mono ?_; rintro e w' ⟨rfl, rfl⟩) | fail)
      go_ret
      exact ⟨by simp, rfl⟩
  · rcases p2 with ⟨Y, hY, cY, rfl, o4⟩ | ⟨o4, o5, o6⟩
    · go_enter Tryd.func61, Tryd.ntmps61
      go_wp2_with (first | (go_at_call 89; refine (signbit_c _ _ (by assumption)).mono ?_; rintro e w' ⟨rfl, rfl⟩) | fail)
      go_ret
      exact ⟨by simp, rfl⟩
    · go_enter Tryd.func61, Tryd.ntmps61
      go_wp2_with fail
      go_ret
      exact ⟨by simp, rfl⟩
end Go.Proofs.YtjckgcjcpmnhhaaDoor
/-
  The statements' own 'back' and 'tooShort': what was written is read again; cut off it is too short.
-/
namespace Go.Proofs.YtjckgcjcpmnhhaaDoor
open Flo Go.RowKit
/-- as it is read again -/
def cn (z : Nat × Nat) : Nat × Nat := (bt z.1, bt z.2)
theorem ret_beq {a b : Int} (h : a = b) : Ending.returned (.bool (a == b)) = .returned (.bool true) := by rw [h, beq_self_eq_true]
theorem ux_ok' (x n : Nat) : Pk.ux (.ok (x, n)) = x := rfl
theorem ue_ok' {α : Type} (al : List Addr) (x : α) : ue al (.ok x) = .nilIface := rfl
theorem ud_ok' {α : Type} (x : α) (n : Nat) : Pk.ud (.ok (x, n)) = n := rfl
theorem cn_ok (xs : List (Nat × Nat)) (i : Nat) (hi : i < xs.length) : bt ((xs.map cn).getD i (0, 0)).1 = bt (xs.getD i (0, 0)).1 ∧ bt ((xs.map cn).getD i (0, 0)).2 = bt (xs.getD i (0, 0)).2 := by
  have e : (xs.map cn).getD i (0, 0) = cn (xs.getD i (0, 0)) := by simp [List.getD, hi]
  rw [e]; exact ⟨btbt _, btbt _⟩
theorem bt_ok (xs : List Nat) (i : Nat) (hi : i < xs.length) : bt ((xs.map bt).getD i 0) = bt (xs.getD i 0) := by
  have e : (xs.map bt).getD i 0 = bt (xs.getD i 0) := by simp [List.getD, hi]
  rw [e]; exact btbt _
section
variable {bs l : List Nat} {K : Nat}
theorem bk_cl (xs : List (Nat × Nat)) (hP : ∀ z ∈ xs, z.1 < 18446744073709551616 ∧ z.2 < 18446744073709551616) (hn : xs.length ≤ 1048576) (h : bs.drop K = (Pk.vi xs.length ++ cbs xs) ++ l) : rli (rcx bs) bs K = .ok (xs.map cn, (Pk.vi xs.length ++ cbs xs).length) :=
  bk_list (P := fun z : Nat × Nat => z.1 < 18446744073709551616 ∧ z.2 < 18446744073709551616) (g := cn) (e := 16) (fun _ _ _ hx hd => bk_complex hx.1 hx.2 hd) (fun _ => by rw [List.length_append, Pk.lo_len, Pk.lo_len]) xs hP hn h
theorem bk_fl (xs : List Nat) (hP : ∀ z ∈ xs, z < 18446744073709551616) (hn : xs.length ≤ 1048576) (h : bs.drop K = (Pk.vi xs.length ++ fbs xs) ++ l) : rli (rfl_ bs) bs K = .ok (xs.map bt, (Pk.vi xs.length ++ fbs xs).length) :=
  bk_list (P := fun z : Nat => z < 18446744073709551616) (g := bt) (e := 8) (fun _ _ _ hx hd => bk_float hx hd) (fun _ => Pk.lo_len _ _) xs hP hn h
theorem sh_cl (xs : List (Nat × Nat)) (hP : ∀ z ∈ xs, z.1 < 18446744073709551616 ∧ z.2 < 18446744073709551616) (hn : xs.length ≤ 1048576) (m : Nat) (hm : m < (Pk.vi xs.length ++ cbs xs).length) (h : bs = (Pk.vi xs.length ++ cbs xs).take m) : rli (rcx bs) bs 0 = .error 0 :=
  sh_list (P := fun z : Nat × Nat => z.1 < 18446744073709551616 ∧ z.2 < 18446744073709551616) (g := cn) (e := 16) (fun _ _ _ hx hd => bk_complex hx.1 hx.2 hd) (fun _ => by rw [List.length_append, Pk.lo_len, Pk.lo_len]) (fun _ hk => sh_complex hk) xs hP hn m hm h
theorem sh_fl (xs : List Nat) (hP : ∀ z ∈ xs, z < 18446744073709551616) (hn : xs.length ≤ 1048576) (m : Nat) (hm : m < (Pk.vi xs.length ++ fbs xs).length) (h : bs = (Pk.vi xs.length ++ fbs xs).take m) : rli (rfl_ bs) bs 0 = .error 0 :=
  sh_list (P := fun z : Nat => z < 18446744073709551616) (g := bt) (e := 8) (fun _ _ _ hx hd => bk_float hx hd) (fun _ => Pk.lo_len _ _) (fun _ hk => sh_float hk) xs hP hn m hm h
end
theorem cn_bd {xs : List (Nat × Nat)} (h : ∀ z ∈ xs, z.1 < 18446744073709551616 ∧ z.2 < 18446744073709551616) : ∀ z ∈ xs.map cn, z.1 < 18446744073709551616 ∧ z.2 < 18446744073709551616 := by
  intro z hz
  obtain ⟨y, hy, rfl⟩ := List.mem_map.1 hz
  exact ⟨bt_lt (h y hy).1, bt_lt (h y hy).2⟩
theorem btl_bd {xs : List Nat} (h : ∀ z ∈ xs, z < 18446744073709551616) : ∀ z ∈ xs.map bt, z < 18446744073709551616 := by
  intro z hz
  obtain ⟨y, hy, rfl⟩ := List.mem_map.1 hz
  exact bt_lt (h y hy)
theorem fr_below {S : Nat → Prop} {w w' : World} (h : Below w.heap.size w w') : Fr S w w' := Fr.of_below h fun j hj hj2 => by omega
theorem rr_below {R : Nat → Prop} {w w' : World} {g k : Nat} {bs : List Nat} (h : Rr R w g bs k) (hb : Below w.heap.size w w') : Rr R w' g bs k := h.under (Fr.of_below (S := fun _ => False) hb fun j hj hj2 => by omega) fun _ _ hh => hh.elim
theorem srcL_below {F : Nat → Prop} {w w' : World} {v : Value} {us : List Value} (h : SrcL F w v us) (hb : Below w.heap.size w w') : SrcL F w' v us := h.under (Fr.of_below (S := fun _ => False) hb fun j hj hj2 => by omega) fun _ _ hh => hh.elim
/-- the list lies in block g -/
def LAt (g : Nat) (l : Value) : Prop := l.ownBlock = some g
theorem srcN_fr {w w' : World} {l : Value} {zs : List Nat} {g : Nat} (h : SrcN w l zs) (hf : Fr (fun j => j = g) w w') (hn : zs ≠ [] → ¬ LAt g l) : SrcN w' l zs := by
  obtain ⟨ao, cap, rfl, h⟩ := h
  refine ⟨ao, cap, rfl, ?_⟩
  rcases h with h | ⟨q, o, rfl, hc⟩
  · exact .inl h
  · exact .inr ⟨q, o, rfl, fun i hi => hf.cell (hc i hi) fun hh => hn (fun e => by rw [e] at hi; exact absurd hi (Nat.not_lt_zero _)) (by show some q = some g; exact congrArg some hh)⟩
set_option maxRecDepth 100000 in
set_option maxHeartbeats 4000000 in
theorem back_0 (R : Nat → Prop) (g K : Nat) (bs tl : List Nat) (al : List Addr) (k : Int) (n : Int) (u v : Nat) (s : ByteArray) (l : Value) (zs : List Nat) (w : World) (h : Rr R w g bs K) (he : Errs w al) (hv : Vok w u v s l zs) (hk : k = 0) (hd : bs.drop K = wbs k u v s zs ++ tl) :
    Calls Tryd.prog 20 #[.pointer (some ⟨g, 0, none⟩), vl k u v s l n] w fun e w' => e = .returned (.bool true) ∧ Rr R w' g bs (K + (wbs k u v s zs).length) ∧ Fr (fun j => j = g) w w' := by
  subst hk
  rw [wbs_0 0 u v s zs (.inl rfl)] at hd ⊢
  have hr : Pk.rv 0 0 (bs.drop K) = .ok (u, (Pk.vi u).length) := bk_uint hv.hu hd
  have hvH : Hid (Vok w u v s l zs) := hv
  obtain ⟨lo, ln, lc, rfl⟩ : ∃ lo ln lc, l = .slice lo ln lc := by obtain ⟨a, c, rfl, _⟩ := hv.hl; exact ⟨_, _, _, rfl⟩
  unfold vl
  obtain ⟨w1, hw1⟩ : ∃ w1, Hid (w1 = w.alloc (.cells #[.int .i64 0, .int .u64 (u : Int), .int .u64 (v : Int), .string s, .slice lo ln lc, .int .i64 n] 30)) := ⟨_, rfl⟩
  have hbx : Hid (Bx w1 w.heap.size 0 u v s (.slice lo ln lc) n) := by rw [hw1.out]; exact box_bx w 0 u v s _ n
  have hB1 : Hid (Below w.heap.size w w1) := by rw [hw1.out]; exact (Below.refl _ _).alloc (Nat.le_refl _) _
  have hR1 : Hid (Rr R w1 g bs K) := rr_below h hB1.out
  have hE1 : Hid (Errs w1 al) := he.below hB1.out
  have hgl : Hid (g < w.heap.size) := h.lt
  have hvw : Hid (Vok w1 u v s (.slice lo ln lc) zs) := ⟨hv.hu, hv.hv, hv.hs, hv.hl.below hB1.out, hv.hz, hv.hb⟩
  have hc : Hid (Calls Tryd.prog 29 #[.pointer (some ⟨g, 0, none⟩)] w1 fun e w' => e = .returned (.tuple #[.int .u64 (u : Nat), .nilIface]) ∧ Rr R w' g bs (K + (Pk.vi u).length) ∧ Fr (fun j => j = g) w1 w') := by
    have := ruint_c R g K bs al w1 hR1.out (e5_of hE1.out)
    rw [hr] at this
    exact this
  clear h he hv hr hd
  go_enter Tryd.func20, Tryd.ntmps20
  go_wp2_with fail
  rw [← hw1.out]
  refine hc.out.mono ?_
  rintro e w2 ⟨rfl, h2, h3⟩
  have h2H : Hid (Rr R w2 g bs (K + (Pk.vi u).length)) := h2
  have h3H : Hid (Fr (fun j => j = g) w1 w2) := h3
  have hb2 := hbx.out.under h3 (fun hh => by have := hgl.out; have hh2 : w.heap.size = g := hh; omega)
  have c0 := hb2.c0
  have c1 := hb2.c1
  have c2 := hb2.c2
  have c3 := hb2.c3
  have c4 := hb2.c4
  have c5 := hb2.c5
  clear hb2 h2 h3
  go_wp2
  go_ret
  exact ⟨by simp, h2H.out, (fr_below hB1.out).then h3H.out⟩
set_option maxRecDepth 100000 in
set_option maxHeartbeats 4000000 in
theorem back_1 (R : Nat → Prop) (g K : Nat) (bs tl : List Nat) (al : List Addr) (n : Int) (u v : Nat) (s : ByteArray) (l : Value) (zs : List Nat) (w : World) (h : Rr R w g bs K) (he : Errs w al) (hv : Vok w u v s l zs) (hd : bs.drop K = wbs 1 u v s zs ++ tl) :
    Calls Tryd.prog 20 #[.pointer (some ⟨g, 0, none⟩), vl 1 u v s l n] w fun e w' => e = .returned (.bool true) ∧ Rr R w' g bs (K + (wbs 1 u v s zs).length) ∧ Fr (fun j => j = g) w w' := by
  rw [wbs_1] at hd ⊢
  have hz : Hid (zz (zg (wrap64 (u : Int))) = wrap64 (u : Int)) := zz_zg _
  have hY := zg_lt (wrap64_bd (u : Int)).1 (wrap64_bd (u : Int)).2
  generalize zg (wrap64 (u : Int)) = Y at hd hz hY ⊢
  have hr : Pk.rv 0 0 (bs.drop K) = .ok (Y, (Pk.vi Y).length) := bk_uint hY hd
  have hvH : Hid (Vok w u v s l zs) := hv
  obtain ⟨lo, ln, lc, rfl⟩ : ∃ lo ln lc, l = .slice lo ln lc := by obtain ⟨a, c, rfl, _⟩ := hv.hl; exact ⟨_, _, _, rfl⟩
  unfold vl
  obtain ⟨w1, hw1⟩ : ∃ w1, Hid (w1 = w.alloc (.cells #[.int .i64 1, .int .u64 (u : Int), .int .u64 (v : Int), .string s, .slice lo ln lc, .int .i64 n] 30)) := ⟨_, rfl⟩
  have hbx : Hid (Bx w1 w.heap.size 1 u v s (.slice lo ln lc) n) := by rw [hw1.out]; exact box_bx w 1 u v s _ n
  have hB1 : Hid (Below w.heap.size w w1) := by rw [hw1.out]; exact (Below.refl _ _).alloc (Nat.le_refl _) _
  have hR1 : Hid (Rr R w1 g bs K) := rr_below h hB1.out
  have hE1 : Hid (Errs w1 al) := he.below hB1.out
  have hgl : Hid (g < w.heap.size) := h.lt
  have hvw : Hid (Vok w1 u v s (.slice lo ln lc) zs) := ⟨hv.hu, hv.hv, hv.hs, hv.hl.below hB1.out, hv.hz, hv.hb⟩
  have hc : Hid (Calls Tryd.prog 52 #[.pointer (some ⟨g, 0, none⟩)] w1 fun e w' => e = .returned (.tuple #[.int .i64 (zz Y), .nilIface]) ∧ Rr R w' g bs (K + (Pk.vi Y).length) ∧ Fr (fun j => j = g) w1 w') := by
    have := rint_c R g K bs al w1 hR1.out (e5_of hE1.out)
    rw [hr, ux_ok', ue_ok', ud_ok'] at this
    exact this
  clear h he hv hr hd hY
  go_enter Tryd.func20, Tryd.ntmps20
  go_wp2_with fail
  rw [← hw1.out]
  refine hc.out.mono ?_
  rintro e w2 ⟨rfl, h2, h3⟩
  have h2H : Hid (Rr R w2 g bs (K + (Pk.vi Y).length)) := h2
  have h3H : Hid (Fr (fun j => j = g) w1 w2) := h3
  have hb2 := hbx.out.under h3 (fun hh => by have := hgl.out; have hh2 : w.heap.size = g := hh; omega)
  have c0 := hb2.c0
  have c1 := hb2.c1
  have c2 := hb2.c2
  have c3 := hb2.c3
  have c4 := hb2.c4
  have c5 := hb2.c5
  clear hb2 h2 h3
  go_wp2
  go_ret
  exact ⟨by have h5 := hz.out; simp [h5], h2H.out, (fr_below hB1.out).then h3H.out⟩
set_option maxRecDepth 100000 in
set_option maxHeartbeats 4000000 in
theorem back_2 (R : Nat → Prop) (g K : Nat) (bs tl : List Nat) (al : List Addr) (n : Int) (u v : Nat) (s : ByteArray) (l : Value) (zs : List Nat) (w : World) (h : Rr R w g bs K) (he : Errs w al) (hv : Vok w u v s l zs) (hd : bs.drop K = wbs 2 u v s zs ++ tl) :
    Calls Tryd.prog 20 #[.pointer (some ⟨g, 0, none⟩), vl 2 u v s l n] w fun e w' => e = .returned (.bool true) ∧ Rr R w' g bs (K + (wbs 2 u v s zs).length) ∧ Fr (fun j => j = g) w w' := by
  rw [wbs_2] at hd ⊢
  have hr : rfl_ bs K = .ok (bt u, 8) := bk_float hv.hu hd
  have hvH : Hid (Vok w u v s l zs) := hv
  obtain ⟨lo, ln, lc, rfl⟩ : ∃ lo ln lc, l = .slice lo ln lc := by obtain ⟨a, c, rfl, _⟩ := hv.hl; exact ⟨_, _, _, rfl⟩
  unfold vl
  obtain ⟨w1, hw1⟩ : ∃ w1, Hid (w1 = w.alloc (.cells #[.int .i64 2, .int .u64 (u : Int), .int .u64 (v : Int), .string s, .slice lo ln lc, .int .i64 n] 30)) := ⟨_, rfl⟩
  have hbx : Hid (Bx w1 w.heap.size 2 u v s (.slice lo ln lc) n) := by rw [hw1.out]; exact box_bx w 2 u v s _ n
  have hB1 : Hid (Below w.heap.size w w1) := by rw [hw1.out]; exact (Below.refl _ _).alloc (Nat.le_refl _) _
  have hR1 : Hid (Rr R w1 g bs K) := rr_below h hB1.out
  have hE1 : Hid (Errs w1 al) := he.below hB1.out
  have hgl : Hid (g < w.heap.size) := h.lt
  have hvw : Hid (Vok w1 u v s (.slice lo ln lc) zs) := ⟨hv.hu, hv.hv, hv.hs, hv.hl.below hB1.out, hv.hz, hv.hb⟩
  have hc : Hid (Calls Tryd.prog 30 #[.pointer (some ⟨g, 0, none⟩)] w1 fun e w' => e = .returned (.tuple #[.float .f64 (bt u), .nilIface]) ∧ Rr R w' g bs (K + 8) ∧ Fr (fun j => j = g) w1 w') := by
    have := rfloat_c R g K bs al w1 hR1.out (e5_of hE1.out)
    rw [hr] at this
    exact this
  have hln : Hid (8 = (Pk.lo 8 (bt u)).length) := by rw [Pk.lo_len]; rfl
  have hu := hv.hu
  have hv2 := hv.hv
  clear h he hv hr hd
  go_enter Tryd.func20, Tryd.ntmps20
  go_wp2_with fail
  rw [← hw1.out]
  refine hc.out.mono ?_
  rintro e w2 ⟨rfl, h2, h3⟩
  have h2H : Hid (Rr R w2 g bs (K + 8)) := h2
  have h3H : Hid (Fr (fun j => j = g) w1 w2) := h3
  have hb2 := hbx.out.under h3 (fun hh => by have := hgl.out; have hh2 : w.heap.size = g := hh; omega)
  have c0 := hb2.c0
  have c1 := hb2.c1
  have c2 := hb2.c2
  have c3 := hb2.c3
  have c4 := hb2.c4
  have c5 := hb2.c5
  clear hb2 h2 h3
  have q1 : ((bt (bt u) : Int) == (bt u : Int)) = true := by rw [btbt]; simp
  have bl := bt_lt hu
  go_wp2_with (first
    | (go_at_call 35; refine (lawof_c _ _).mono ?_; rintro e w' ⟨rfl, rfl⟩)
    | (go_at_call 55; refine (rsame_c _ _ _ bl hu).mono ?_; rintro e w' ⟨rfl, rfl⟩)
    | fail)
  go_ret
  exact ⟨rfl, by rw [← hln.out]; exact h2H.out, (fr_below hB1.out).then h3H.out⟩
set_option maxRecDepth 100000 in
set_option maxHeartbeats 4000000 in
theorem back_3 (R : Nat → Prop) (g K : Nat) (bs tl : List Nat) (al : List Addr) (n : Int) (u v : Nat) (s : ByteArray) (l : Value) (zs : List Nat) (w : World) (h : Rr R w g bs K) (he : Errs w al) (hv : Vok w u v s l zs) (hd : bs.drop K = wbs 3 u v s zs ++ tl) :
    Calls Tryd.prog 20 #[.pointer (some ⟨g, 0, none⟩), vl 3 u v s l n] w fun e w' => e = .returned (.bool true) ∧ Rr R w' g bs (K + (wbs 3 u v s zs).length) ∧ Fr (fun j => j = g) w w' := by
  rw [wbs_3] at hd ⊢
  have hr : rcx bs K = .ok ((bt u, bt v), 16) := bk_complex hv.hu hv.hv hd
  have hvH : Hid (Vok w u v s l zs) := hv
  obtain ⟨lo, ln, lc, rfl⟩ : ∃ lo ln lc, l = .slice lo ln lc := by obtain ⟨a, c, rfl, _⟩ := hv.hl; exact ⟨_, _, _, rfl⟩
  unfold vl
  obtain ⟨w1, hw1⟩ : ∃ w1, Hid (w1 = w.alloc (.cells #[.int .i64 3, .int .u64 (u : Int), .int .u64 (v : Int), .string s, .slice lo ln lc, .int .i64 n] 30)) := ⟨_, rfl⟩
  have hbx : Hid (Bx w1 w.heap.size 3 u v s (.slice lo ln lc) n) := by rw [hw1.out]; exact box_bx w 3 u v s _ n
  have hB1 : Hid (Below w.heap.size w w1) := by rw [hw1.out]; exact (Below.refl _ _).alloc (Nat.le_refl _) _
  have hR1 : Hid (Rr R w1 g bs K) := rr_below h hB1.out
  have hE1 : Hid (Errs w1 al) := he.below hB1.out
  have hgl : Hid (g < w.heap.size) := h.lt
  have hvw : Hid (Vok w1 u v s (.slice lo ln lc) zs) := ⟨hv.hu, hv.hv, hv.hs, hv.hl.below hB1.out, hv.hz, hv.hb⟩
  have hc : Hid (Calls Tryd.prog 56 #[.pointer (some ⟨g, 0, none⟩)] w1 fun e w' => e = .returned (.tuple #[.complex .f64 (bt u) (bt v), .nilIface]) ∧ Rr R w' g bs (K + 16) ∧ Fr (fun j => j = g) w1 w') := by
    have := rcomplex_c R g K bs al w1 hR1.out (e5_of hE1.out)
    rw [hr] at this
    exact this
  have hln : Hid (16 = (Pk.lo 8 (bt u) ++ Pk.lo 8 (bt v)).length) := by rw [List.length_append, Pk.lo_len, Pk.lo_len]; rfl
  have hu := hv.hu
  have hv2 := hv.hv
  clear h he hv hr hd
  go_enter Tryd.func20, Tryd.ntmps20
  go_wp2_with fail
  rw [← hw1.out]
  refine hc.out.mono ?_
  rintro e w2 ⟨rfl, h2, h3⟩
  have h2H : Hid (Rr R w2 g bs (K + 16)) := h2
  have h3H : Hid (Fr (fun j => j = g) w1 w2) := h3
  have hb2 := hbx.out.under h3 (fun hh => by have := hgl.out; have hh2 : w.heap.size = g := hh; omega)
  have c0 := hb2.c0
  have c1 := hb2.c1
  have c2 := hb2.c2
  have c3 := hb2.c3
  have c4 := hb2.c4
  have c5 := hb2.c5
  clear hb2 h2 h3
  go_wp2_with fail
  refine (complexOf_c 3 n u v s (.slice lo ln lc) w2 lo ln lc rfl).mono ?_
  rintro e w3 ⟨rfl, hb3⟩
  have hb3H : Hid (Below w2.heap.size w2 w3) := hb3
  clear hb3 c0 c1 c2 c3 c4 c5
  go_wp2_with fail
  refine (lsame_t (bt u) (bt v) u v w3 (bt_lt hu) (bt_lt hv2) hu hv2 (btbt u) (btbt v)).mono ?_
  rintro e w' ⟨rfl, rfl⟩
  go_wp2
  go_ret
  exact ⟨rfl, by rw [← hln.out]; exact rr_below h2H.out hb3H.out, (fr_below hB1.out).then (h3H.out.then (fr_below hb3H.out))⟩
set_option maxRecDepth 100000 in
set_option maxHeartbeats 4000000 in
theorem back_4 (R : Nat → Prop) (g K : Nat) (bs tl : List Nat) (al : List Addr) (n : Int) (u v : Nat) (s : ByteArray) (l : Value) (zs : List Nat) (w : World) (h : Rr R w g bs K) (he : Errs w al) (hv : Vok w u v s l zs) (hd : bs.drop K = wbs 4 u v s zs ++ tl) :
    Calls Tryd.prog 20 #[.pointer (some ⟨g, 0, none⟩), vl 4 u v s l n] w fun e w' => e = .returned (.bool true) ∧ Rr R w' g bs (K + (wbs 4 u v s zs).length) ∧ Fr (fun j => j = g) w w' := by
  rw [wbs_4] at hd ⊢
  have hr : rnw bs K = .ok ((bt32 (u % 4294967296), bt32 (v % 4294967296)), 8) := bk_narrow (Nat.mod_lt _ (by decide)) (Nat.mod_lt _ (by decide)) hd
  have hvH : Hid (Vok w u v s l zs) := hv
  obtain ⟨lo, ln, lc, rfl⟩ : ∃ lo ln lc, l = .slice lo ln lc := by obtain ⟨a, c, rfl, _⟩ := hv.hl; exact ⟨_, _, _, rfl⟩
  unfold vl
  obtain ⟨w1, hw1⟩ : ∃ w1, Hid (w1 = w.alloc (.cells #[.int .i64 4, .int .u64 (u : Int), .int .u64 (v : Int), .string s, .slice lo ln lc, .int .i64 n] 30)) := ⟨_, rfl⟩
  have hbx : Hid (Bx w1 w.heap.size 4 u v s (.slice lo ln lc) n) := by rw [hw1.out]; exact box_bx w 4 u v s _ n
  have hB1 : Hid (Below w.heap.size w w1) := by rw [hw1.out]; exact (Below.refl _ _).alloc (Nat.le_refl _) _
  have hR1 : Hid (Rr R w1 g bs K) := rr_below h hB1.out
  have hE1 : Hid (Errs w1 al) := he.below hB1.out
  have hgl : Hid (g < w.heap.size) := h.lt
  have hvw : Hid (Vok w1 u v s (.slice lo ln lc) zs) := ⟨hv.hu, hv.hv, hv.hs, hv.hl.below hB1.out, hv.hz, hv.hb⟩
  have hc : Hid (Calls Tryd.prog 59 #[.pointer (some ⟨g, 0, none⟩)] w1 fun e w' => e = .returned (.tuple #[.complex .f32 (bt32 (u % 4294967296)) (bt32 (v % 4294967296)), .nilIface]) ∧ Rr R w' g bs (K + 8) ∧ Fr (fun j => j = g) w1 w') := by
    have := rnarrow_c R g K bs al w1 hR1.out (e5_of hE1.out)
    rw [hr] at this
    exact this
  have hln : Hid (8 = (Pk.lo 4 (bt32 (u % 4294967296)) ++ Pk.lo 4 (bt32 (v % 4294967296))).length) := by rw [List.length_append, Pk.lo_len, Pk.lo_len]; rfl
  clear h he hv hr hd
  go_enter Tryd.func20, Tryd.ntmps20
  go_wp2_with fail
  rw [← hw1.out]
  refine hc.out.mono ?_
  rintro e w2 ⟨rfl, h2, h3⟩
  have h2H : Hid (Rr R w2 g bs (K + 8)) := h2
  have h3H : Hid (Fr (fun j => j = g) w1 w2) := h3
  have hb2 := hbx.out.under h3 (fun hh => by have := hgl.out; have hh2 : w.heap.size = g := hh; omega)
  have c0 := hb2.c0
  have c1 := hb2.c1
  have c2 := hb2.c2
  have c3 := hb2.c3
  have c4 := hb2.c4
  have c5 := hb2.c5
  clear hb2 h2 h3
  go_wp2_with fail
  refine (narrowOf_c 4 n u v s (.slice lo ln lc) w2 lo ln lc rfl).mono ?_
  rintro e w3 ⟨rfl, hb3⟩
  have hb3H : Hid (Below w2.heap.size w2 w3) := hb3
  clear hb3 c0 c1 c2 c3 c4 c5
  go_wp2_with fail
  refine (same32_t (bt32 (u % 4294967296)) (bt32 (v % 4294967296)) (u % 4294967296) (v % 4294967296) w3 (bt32_bt _) (bt32_bt _)).mono ?_
  rintro e w' ⟨rfl, rfl⟩
  go_wp2
  go_ret
  exact ⟨rfl, by rw [← hln.out]; exact rr_below h2H.out hb3H.out, (fr_below hB1.out).then (h3H.out.then (fr_below hb3H.out))⟩
set_option maxRecDepth 100000 in
set_option maxHeartbeats 4000000 in
theorem back_5 (R : Nat → Prop) (g K : Nat) (bs tl : List Nat) (al : List Addr) (n : Int) (u v : Nat) (s : ByteArray) (l : Value) (zs : List Nat) (w : World) (h : Rr R w g bs K) (he : Errs w al) (hg : ¬ g < 5) (hv : Vok w u v s l zs) (hd : bs.drop K = wbs 5 u v s zs ++ tl) :
    Calls Tryd.prog 20 #[.pointer (some ⟨g, 0, none⟩), vl 5 u v s l n] w fun e w' => e = .returned (.bool true) ∧ Rr R w' g bs (K + (wbs 5 u v s zs).length) ∧ Fr (fun j => j = g) w w' := by
  rw [wbs_5] at hd ⊢
  have hr : rtx (s.size : Int) bs K = .ok (sb s, (Pk.vi s.size ++ sb s).length) := by
    have h5 := bk_text (t := sb s) (bs := bs) (l := tl) (K := K) (by rw [sb_len]; have := hv.hs; omega) (by rw [sb_len]; exact hd)
    rw [sb_len] at h5
    exact h5
  have hvH : Hid (Vok w u v s l zs) := hv
  obtain ⟨lo, ln, lc, rfl⟩ : ∃ lo ln lc, l = .slice lo ln lc := by obtain ⟨a, c, rfl, _⟩ := hv.hl; exact ⟨_, _, _, rfl⟩
  unfold vl
  obtain ⟨w1, hw1⟩ : ∃ w1, Hid (w1 = w.alloc (.cells #[.int .i64 5, .int .u64 (u : Int), .int .u64 (v : Int), .string s, .slice lo ln lc, .int .i64 n] 30)) := ⟨_, rfl⟩
  have hbx : Hid (Bx w1 w.heap.size 5 u v s (.slice lo ln lc) n) := by rw [hw1.out]; exact box_bx w 5 u v s _ n
  have hB1 : Hid (Below w.heap.size w w1) := by rw [hw1.out]; exact (Below.refl _ _).alloc (Nat.le_refl _) _
  have hR1 : Hid (Rr R w1 g bs K) := rr_below h hB1.out
  have hE1 : Hid (Errs w1 al) := he.below hB1.out
  have hgl : Hid (g < w.heap.size) := h.lt
  have hvw : Hid (Vok w1 u v s (.slice lo ln lc) zs) := ⟨hv.hu, hv.hv, hv.hs, hv.hl.below hB1.out, hv.hz, hv.hb⟩
  have hc : Hid (Calls Tryd.prog 31 #[.pointer (some ⟨g, 0, none⟩), .int .i64 (s.size : Int)] w1 fun e w' => e = .returned (.tuple #[.string s, .nilIface]) ∧ Rr R w' g bs (K + (Pk.vi s.size ++ sb s).length) ∧ Fr (fun j => j = g) w1 w') := by
    have := rtext_c R g K (s.size : Int) bs al w1 hR1.out (e5_of hE1.out) hg (by have := hv.hs; omega)
    rw [hr] at this
    have e : mkS (lx (.ok (sb s, (Pk.vi s.size ++ sb s).length))) = s := mkS_sb s
    rw [e] at this
    exact this
  have hu := hv.hu
  have hv2 := hv.hv
  clear h he hv hr hd
  go_enter Tryd.func20, Tryd.ntmps20
  go_wp2_with fail
  rw [← hw1.out]
  refine hc.out.mono ?_
  rintro e w2 ⟨rfl, h2, h3⟩
  have h2H : Hid (Rr R w2 g bs (K + (Pk.vi s.size ++ sb s).length)) := h2
  have h3H : Hid (Fr (fun j => j = g) w1 w2) := h3
  have hb2 := hbx.out.under h3 (fun hh => by have := hgl.out; have hh2 : w.heap.size = g := hh; omega)
  have c0 := hb2.c0
  have c1 := hb2.c1
  have c2 := hb2.c2
  have c3 := hb2.c3
  have c4 := hb2.c4
  have c5 := hb2.c5
  clear hb2 h2 h3
  go_wp2
  go_ret
  exact ⟨by simp, h2H.out, (fr_below hB1.out).then h3H.out⟩
set_option maxRecDepth 100000 in
set_option maxHeartbeats 4000000 in
theorem back_6 (R : Nat → Prop) (g K : Nat) (bs tl : List Nat) (al : List Addr) (n : Int) (u v : Nat) (s : ByteArray) (l : Value) (zs : List Nat) (w : World) (h : Rr R w g bs K) (he : Errs w al) (hg : ¬ g < 5) (hv : Vok w u v s l zs) (hnr : zs ≠ [] → ¬ LAt g l) (hd : bs.drop K = wbs 6 u v s zs ++ tl) :
    Calls Tryd.prog 20 #[.pointer (some ⟨g, 0, none⟩), vl 6 u v s l n] w fun e w' => e = .returned (.bool true) ∧ Rr R w' g bs (K + (wbs 6 u v s zs).length) ∧ Fr (fun j => j = g) w w' := by
  rw [wbs_6] at hd ⊢
  obtain ⟨xs, hxs⟩ : ∃ xs, xs = (pri zs (zs.length / 2)) := ⟨_, rfl⟩
  have hxl : Hid (xs.length ≤ 1048576) := by show _ ≤ _; rw [hxs]; rw [pri_len]; have := hv.hz; omega
  have hxb : Hid (∀ z ∈ xs, z.1 < 18446744073709551616 ∧ z.2 < 18446744073709551616) := by rw [hxs]; exact pri_bd hv.hb _ (by omega)
  have hof : Hid (∀ W, SrcN W l zs → Calls Tryd.prog 22 #[vl 6 u v s l n] W fun e w' => ∃ v', e = .returned v' ∧ NewU 54 W w' v' (ccs xs) ∧ Below W.heap.size W w') := by
    intro W hW; rw [hxs]; exact listOf_c 6 n u v s l zs W hW hv.hz
  rw [← hxs] at hd ⊢
  have hr : rli (rcx bs) bs K = .ok (xs.map cn, (Pk.vi xs.length ++ cbs xs).length) := bk_cl xs hxb.out hxl.out hd
  have hvH : Hid (Vok w u v s l zs) := hv
  obtain ⟨lo, ln, lc, rfl⟩ : ∃ lo ln lc, l = .slice lo ln lc := by obtain ⟨a, c, rfl, _⟩ := hv.hl; exact ⟨_, _, _, rfl⟩
  unfold vl
  obtain ⟨w1, hw1⟩ : ∃ w1, Hid (w1 = w.alloc (.cells #[.int .i64 6, .int .u64 (u : Int), .int .u64 (v : Int), .string s, .slice lo ln lc, .int .i64 n] 30)) := ⟨_, rfl⟩
  have hbx : Hid (Bx w1 w.heap.size 6 u v s (.slice lo ln lc) n) := by rw [hw1.out]; exact box_bx w 6 u v s _ n
  have hB1 : Hid (Below w.heap.size w w1) := by rw [hw1.out]; exact (Below.refl _ _).alloc (Nat.le_refl _) _
  have hR1 : Hid (Rr R w1 g bs K) := rr_below h hB1.out
  have hE1 : Hid (Errs w1 al) := he.below hB1.out
  have hgl : Hid (g < w.heap.size) := h.lt
  have hvw : Hid (Vok w1 u v s (.slice lo ln lc) zs) := ⟨hv.hu, hv.hv, hv.hs, hv.hl.below hB1.out, hv.hz, hv.hb⟩
  have hc : Hid (Calls Tryd.prog 25 #[.pointer (some ⟨g, 0, none⟩)] w1 fun e w' => ∃ v', e = .returned (.tuple #[v', .nilIface]) ∧ NewU 54 w1 w' v' (ccs (xs.map cn)) ∧ Rr R w' g bs (K + (Pk.vi xs.length ++ cbs xs).length) ∧ Fr (fun j => j = g) w1 w') := by
    have := rlist_c R g K bs al w1 hR1.out (e5_of hE1.out) hg
    rw [hr] at this
    exact this
  clear h he hv hr hd hxs
  go_enter Tryd.func20, Tryd.ntmps20
  go_wp2_with fail
  rw [← hw1.out]
  refine hc.out.mono ?_
  rintro e w2 ⟨va, rfl, hNa, h2, h3⟩
  have hSa : Hid (SrcL (fun _ => False) w2 va (ccs (xs.map cn))) := hNa.srcL fun _ hh => hh.elim
  have hs2 : Hid (SrcN w2 (.slice lo ln lc) zs) := srcN_fr hvw.out.hl h3 hnr
  clear hNa
  have h2H : Hid (Rr R w2 g bs (K + (Pk.vi xs.length ++ cbs xs).length)) := h2
  have h3H : Hid (Fr (fun j => j = g) w1 w2) := h3
  have hb2 := hbx.out.under h3 (fun hh => by have := hgl.out; have hh2 : w.heap.size = g := hh; omega)
  have c0 := hb2.c0
  have c1 := hb2.c1
  have c2 := hb2.c2
  have c3 := hb2.c3
  have c4 := hb2.c4
  have c5 := hb2.c5
  clear hb2 h2 h3
  go_wp2_with fail
  refine (hof.out w2 hs2.out).mono ?_
  rintro e w3 ⟨vb, rfl, hNb, hb3⟩
  have hb3H : Hid (Below w2.heap.size w2 w3) := hb3
  have hSb : Hid (SrcL (fun _ => False) w3 vb (ccs xs)) := hNb.srcL fun _ hh => hh.elim
  have hSa3 : Hid (SrcL (fun _ => False) w3 va (ccs (xs.map cn))) := srcL_below hSa.out hb3
  clear hb3 hNb c0 c1 c2 c3 c4 c5
  go_wp2_with fail
  refine (lsameList_t _ _ (xs.map cn) xs va vb w3 hSa3.out hSb.out (by rw [List.length_map]; exact hxl.out) (by rw [List.length_map]) (fun i hi => cn_ok xs i (by rw [List.length_map] at hi; exact hi)) (cn_bd hxb.out) hxb.out).mono ?_
  rintro e w4 ⟨rfl, hq4⟩
  have hq4H : Hid (Qt w3 w4) := hq4
  clear hq4
  go_wp2
  go_ret
  exact ⟨rfl, (rr_below h2H.out hb3H.out).qt hq4H.out, (fr_below hB1.out).then (h3H.out.then ((fr_below hb3H.out).then (hq4H.out.fr _)))⟩
set_option maxRecDepth 100000 in
set_option maxHeartbeats 4000000 in
theorem back_7 (R : Nat → Prop) (g K : Nat) (bs tl : List Nat) (al : List Addr) (n : Int) (u v : Nat) (s : ByteArray) (l : Value) (zs : List Nat) (w : World) (h : Rr R w g bs K) (he : Errs w al) (hg : ¬ g < 5) (hv : Vok w u v s l zs) (hnr : zs ≠ [] → ¬ LAt g l) (hd : bs.drop K = wbs 7 u v s zs ++ tl) :
    Calls Tryd.prog 20 #[.pointer (some ⟨g, 0, none⟩), vl 7 u v s l n] w fun e w' => e = .returned (.bool true) ∧ Rr R w' g bs (K + (wbs 7 u v s zs).length) ∧ Fr (fun j => j = g) w w' := by
  rw [wbs_7] at hd ⊢
  obtain ⟨xs, hxs⟩ : ∃ xs, xs = zs := ⟨_, rfl⟩
  have hxl : Hid (xs.length ≤ 1048576) := by show _ ≤ _; rw [hxs]; exact hv.hz
  have hxb : Hid (∀ z ∈ xs, z < 18446744073709551616) := by rw [hxs]; exact hv.hb
  have hof : Hid (∀ W, SrcN W l zs → Calls Tryd.prog 46 #[vl 7 u v s l n] W fun e w' => ∃ v', e = .returned v' ∧ NewU 61 W w' v' (fcs xs) ∧ Below W.heap.size W w') := by
    intro W hW; rw [hxs]; exact floatsOf_c 7 n u v s l zs W hW hv.hz
  rw [← hxs] at hd ⊢
  have hr : rli (rfl_ bs) bs K = .ok (xs.map bt, (Pk.vi xs.length ++ fbs xs).length) := bk_fl xs hxb.out hxl.out hd
  have hvH : Hid (Vok w u v s l zs) := hv
  obtain ⟨lo, ln, lc, rfl⟩ : ∃ lo ln lc, l = .slice lo ln lc := by obtain ⟨a, c, rfl, _⟩ := hv.hl; exact ⟨_, _, _, rfl⟩
  unfold vl
  obtain ⟨w1, hw1⟩ : ∃ w1, Hid (w1 = w.alloc (.cells #[.int .i64 7, .int .u64 (u : Int), .int .u64 (v : Int), .string s, .slice lo ln lc, .int .i64 n] 30)) := ⟨_, rfl⟩
  have hbx : Hid (Bx w1 w.heap.size 7 u v s (.slice lo ln lc) n) := by rw [hw1.out]; exact box_bx w 7 u v s _ n
  have hB1 : Hid (Below w.heap.size w w1) := by rw [hw1.out]; exact (Below.refl _ _).alloc (Nat.le_refl _) _
  have hR1 : Hid (Rr R w1 g bs K) := rr_below h hB1.out
  have hE1 : Hid (Errs w1 al) := he.below hB1.out
  have hgl : Hid (g < w.heap.size) := h.lt
  have hvw : Hid (Vok w1 u v s (.slice lo ln lc) zs) := ⟨hv.hu, hv.hv, hv.hs, hv.hl.below hB1.out, hv.hz, hv.hb⟩
  have hc : Hid (Calls Tryd.prog 64 #[.pointer (some ⟨g, 0, none⟩)] w1 fun e w' => ∃ v', e = .returned (.tuple #[v', .nilIface]) ∧ NewU 61 w1 w' v' (fcs (xs.map bt)) ∧ Rr R w' g bs (K + (Pk.vi xs.length ++ fbs xs).length) ∧ Fr (fun j => j = g) w1 w') := by
    have := rfloats_c R g K bs al w1 hR1.out (e5_of hE1.out) hg
    rw [hr] at this
    exact this
  clear h he hv hr hd hxs
  go_enter Tryd.func20, Tryd.ntmps20
  go_wp2_with fail
  rw [← hw1.out]
  refine hc.out.mono ?_
  rintro e w2 ⟨va, rfl, hNa, h2, h3⟩
  have hSa : Hid (SrcL (fun _ => False) w2 va (fcs (xs.map bt))) := hNa.srcL fun _ hh => hh.elim
  have hs2 : Hid (SrcN w2 (.slice lo ln lc) zs) := srcN_fr hvw.out.hl h3 hnr
  clear hNa
  have h2H : Hid (Rr R w2 g bs (K + (Pk.vi xs.length ++ fbs xs).length)) := h2
  have h3H : Hid (Fr (fun j => j = g) w1 w2) := h3
  have hb2 := hbx.out.under h3 (fun hh => by have := hgl.out; have hh2 : w.heap.size = g := hh; omega)
  have c0 := hb2.c0
  have c1 := hb2.c1
  have c2 := hb2.c2
  have c3 := hb2.c3
  have c4 := hb2.c4
  have c5 := hb2.c5
  clear hb2 h2 h3
  go_wp2_with fail
  refine (hof.out w2 hs2.out).mono ?_
  rintro e w3 ⟨vb, rfl, hNb, hb3⟩
  have hb3H : Hid (Below w2.heap.size w2 w3) := hb3
  have hSb : Hid (SrcL (fun _ => False) w3 vb (fcs xs)) := hNb.srcL fun _ hh => hh.elim
  have hSa3 : Hid (SrcL (fun _ => False) w3 va (fcs (xs.map bt))) := srcL_below hSa.out hb3
  clear hb3 hNb c0 c1 c2 c3 c4 c5
  go_wp2_with fail
  refine (rsameList_t _ _ (xs.map bt) xs va vb w3 hSa3.out hSb.out (by rw [List.length_map]; exact hxl.out) (by rw [List.length_map]) (fun i hi => bt_ok xs i (by rw [List.length_map] at hi; exact hi)) (btl_bd hxb.out) hxb.out).mono ?_
  rintro e w4 ⟨rfl, hq4⟩
  have hq4H : Hid (Qt w3 w4) := hq4
  clear hq4
  go_wp2
  go_ret
  exact ⟨rfl, (rr_below h2H.out hb3H.out).qt hq4H.out, (fr_below hB1.out).then (h3H.out.then ((fr_below hb3H.out).then (hq4H.out.fr _)))⟩
end Go.Proofs.YtjckgcjcpmnhhaaDoor
