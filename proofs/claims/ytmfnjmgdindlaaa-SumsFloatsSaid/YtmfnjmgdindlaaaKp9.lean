/-
  The kept sum: the program's and the document's, up to which NaN it is.
-/
import Derived.Test.YtmfnjmgdindlaaaSl9
import Derived.Test.YtmfnjmgdindlaaaSgn
namespace Go.Proofs.Ytmfnjmgdindlaaa
open Flo Go.RowKit Ieee
/-- at least -/
def ge (a b : Nat) : Bool := match double.order a b with | some .gt => true | some .eq => true | _ => false
theorem ge_eq (a b : Nat) (ha : a < 18446744073709551616) (hb : b < 18446744073709551616) : ge a b = (!nanB a && !nanB b && decide (sv b ≤ sv a)) := by
  have h1 := gt_iff a b ha hb
  have h2 := eq_iff a b ha hb
  have h3 : ge a b = ((double.order a b == some .gt) || (double.order a b == some .eq)) := by
    unfold ge
    cases h : double.order a b with
    | none => rfl
    | some o => cases o <;> rfl
  rw [h3, h1, h2, Bool.eq_iff_iff]
  simp only [Bool.or_eq_true, Bool.and_eq_true, Bool.not_eq_true', decide_eq_true_eq]
  constructor
  · rintro (⟨⟨p, q⟩, c⟩ | ⟨⟨p, q⟩, c⟩) <;> exact ⟨⟨p, q⟩, by omega⟩
  · rintro ⟨⟨p, q⟩, c⟩
    by_cases h : sv b < sv a
    · exact .inl ⟨⟨p, q⟩, h⟩
    · exact .inr ⟨⟨p, q⟩, by omega⟩
/-- the same world, but for draws -/
def Dr (w w' : World) : Prop := ∃ q, w' = w.drewN q
theorem Dr.refl (w : World) : Dr w w := ⟨0, rfl⟩
theorem Dr.more {w w' : World} (h : Dr w w') (k : Nat) : Dr w (w'.drewN k) := by
  obtain ⟨q, e⟩ := h
  exact ⟨q + k, by rw [e, World.drewN_drewN]⟩
def big (s x : Nat) : Bool := !nanB s && !nanB x && decide (x % 9223372036854775808 ≤ s % 9223372036854775808)
theorem big_bt (s x : Nat) : big (bt s) (bt x) = big s x := by
  unfold big
  rw [nan_bt, nan_bt]
  cases h1 : nanB s
  · rw [bt_fin h1]
    cases h2 : nanB x
    · rw [bt_fin h2]
    · simp
  · simp
theorem nan_sz (s : Nat) : nanB (sz s) = nanB s := by unfold nanB sz; rw [Nat.mod_mod]
theorem sv_sz (s : Nat) : sv (sz s) = ((s % 9223372036854775808 : Nat) : Int) := by unfold sv sz; rw [if_pos (by omega)]
theorem ge_sz (s x : Nat) : ge (sz s) (sz x) = big s x := by
  have h1 := sz_lt s
  have h2 := sz_lt x
  rw [ge_eq _ _ (by omega) (by omega), nan_sz, nan_sz, sv_sz, sv_sz]
  unfold big
  congr 1
  rw [decide_eq_decide]; omega
/-- without its sign, as the document has it -/
def sq (x : Nat) : Nat := if (double.order x 0 == some .lt) then Ari.ng x else x
theorem sq_facts (x : Nat) (h : x < 18446744073709551616) : sq x < 18446744073709551616 ∧ nanB (sq x) = nanB x ∧ (nanB x = false → sv (sq x) = ((x % 9223372036854775808 : Nat) : Int)) := by
  have h1 := lt_iff x 0 h (by decide)
  have h0 : nanB 0 = false := by decide
  have hs0 : sv 0 = 0 := by decide
  rw [h0, hs0] at h1
  unfold sq
  rw [h1]
  split
  · rename_i c
    refine ⟨Ari.ng_lt h, Ari.nan_ng h, fun hn => ?_⟩
    rw [hn] at c
    simp only [Bool.not_false, Bool.true_and, decide_eq_true_eq] at c
    unfold sv at c
    unfold sv Ari.ng
    by_cases hx : x < 9223372036854775808
    · rw [if_pos hx] at c; omega
    · rw [if_neg hx, if_pos (by omega)]; omega
  · rename_i c
    refine ⟨h, rfl, fun hn => ?_⟩
    rw [hn] at c
    simp only [Bool.not_false, Bool.true_and, decide_eq_true_eq] at c
    unfold sv at c ⊢
    by_cases hx : x < 9223372036854775808
    · rw [if_pos hx]; omega
    · rw [if_neg hx] at c ⊢; omega
theorem ge_sq (s x : Nat) (hs : s < 18446744073709551616) (hx : x < 18446744073709551616) : ge (sq s) (sq x) = big s x := by
  obtain ⟨a1, a2, a3⟩ := sq_facts s hs
  obtain ⟨b1, b2, b3⟩ := sq_facts x hx
  rw [ge_eq _ _ a1 b1, a2, b2]
  unfold big
  cases hn : nanB s
  · cases hm : nanB x
    · rw [a3 hn, b3 hm]
      congr 1
      rw [decide_eq_decide]; omega
    · simp
  · simp
/-- what was lost -/
def ls (s x t : Nat) : Nat := if big s x then co .add (co .sub s t) x else co .add (co .sub x t) s
theorem ls_of {s x t s' t' : Nat} (h1 : bt s = bt s') (h2 : bt t = bt t') : ls s x t = ls s' x t' := by
  unfold ls
  rw [← big_bt s x, ← big_bt s' x, h1]
  split
  · exact co_of (by rw [co_of h1 h2]) rfl
  · exact co_of (by rw [co_of rfl h2]) h1
theorem ls_bt (s x t : Nat) : bt (ls s x t) = ls s x t := by unfold ls; split <;> exact bt_co _ _ _
def kstep (st : Nat × Nat) (x : Nat) : Nat × Nat := (co .add st.1 x, co .add st.2 (ls st.1 x (co .add st.1 x)))
def kz : List Nat → Nat × Nat
  | [] => (0, 0)
  | x :: t => t.foldl kstep (bt x, 0)
theorem kz_take {xs : List Nat} {i : Nat} (h0 : 0 < i) (h : i < xs.length) : kz (xs.take (i + 1)) = kstep (kz (xs.take i)) (xs.getD i 0) := by
  rw [List.take_succ_eq_append_getElem h, getD_at h]
  have hne : xs.take i ≠ [] := fun e => by have := congrArg List.length e; rw [List.length_take, Nat.min_eq_left (by omega)] at this; simp at this; omega
  generalize xs.take i = a at *
  cases a with
  | nil => exact absurd rfl hne
  | cons y t => simp [kz, List.foldl_append]
theorem kz_first {xs : List Nat} (h : 0 < xs.length) : kz (xs.take 1) = (bt (xs.getD 0 0), 0) := by
  cases xs with
  | nil => simp at h
  | cons a t => rfl
/-- the kept sum -/
def kp (xs : List Nat) : Nat := if xs.length < 2 then lf xs else co .add (kz xs).1 (kz xs).2
theorem kp_bt (xs : List Nat) : bt (kp xs) = kp xs := by unfold kp; split; exact lf_bt xs; exact bt_co _ _ _
set_option maxRecDepth 100000 in
set_option maxHeartbeats 1000000 in
theorem loss_c (s x t : Nat) (w : World) (hs : Hid (s < 18446744073709551616)) (hx : Hid (x < 18446744073709551616)) :
    Calls Try.prog 25 #[.float .f64 s, .float .f64 x, .float .f64 t] w (RFx w (ls s x t)) := by
  have ha := @run_fadd Try.prog
  have hb := @run_fsub Try.prog
  have hg := ge_sz s x
  unfold ge at hg
  have e1 : Hid (∀ a b c W W', bt (fr .add (fr .sub a b W) c W') = co .add (co .sub a b) c) := fun a b c W W' => by rw [bt_fr, co_fr_left]
  have e2 : Hid (∀ a b W, fr .add a b W < 18446744073709551616) := fun a b W => fr_lt _ _ _ _
  rcases ho : double.order (sz s) (sz x) with _ | (_ | _ | _)
  all_goals
    rw [ho] at hg
    have ho' : FloatKind.f64.format.order (sz s) (sz x) = _ := ho
    clear ho
    have hgH : Hid (big s x = _) := hg.symm
    clear hg
    go_enter Try.func25, Try.ntmps25
    go_wp2_with (go_at_call 42; refine (abs_c _ _ (by first | exact hs.out | exact hx.out)).mono ?_; rintro e w' ⟨rfl, rfl⟩)
    go_ret
    refine ⟨_, _, rfl, by first | rfl | exact World.drewN_drewN _ _ _, e2.out _ _ _, ?_⟩
    rw [e1.out]
    unfold ls
    rw [hgH.out]
    rfl
theorem sq_t (x : Nat) (h : (double.order x 0 == some .lt) = true) : Ari.ng x = sq x := by unfold sq; rw [h, if_pos rfl]
theorem sq_f (x : Nat) (h : (double.order x 0 == some .lt) = false) : x = sq x := by unfold sq; rw [h, if_neg Bool.false_ne_true]
set_option maxRecDepth 100000 in
set_option maxHeartbeats 1000000 in
theorem rsize_t (x z : Nat) (w : World) (ho : (FloatKind.f64.format.order x 0 == some .lt) = true) (hn : ∀ w, (Op.unary .neg (.float .f64 x)).run Try.prog w = .ok (.float .f64 z) w) :
    Calls Try.prog 32 #[.float .f64 x] w fun e w' => e = .returned (.float .f64 z) ∧ w = w' := by
  go_enter Try.func32, Try.ntmps32
  go_wp2_with fail
  go_ret
  exact ⟨rfl, rfl⟩
set_option maxRecDepth 100000 in
set_option maxHeartbeats 1000000 in
theorem rsize_f (x : Nat) (w : World) (ho : (FloatKind.f64.format.order x 0 == some .lt) = false) :
    Calls Try.prog 32 #[.float .f64 x] w fun e w' => e = .returned (.float .f64 x) ∧ w = w' := by
  go_enter Try.func32, Try.ntmps32
  go_wp2_with fail
  go_ret
  exact ⟨rfl, rfl⟩
theorem rsize_c (x : Nat) (w : World) (hx : Hid (x < 18446744073709551616)) :
    Calls Try.prog 32 #[.float .f64 x] w fun e w' => e = .returned (.float .f64 (sq x)) ∧ w = w' := by
  cases ho : (double.order x 0 == some .lt)
  · have := rsize_f x w ho
    rw [← sq_f x ho]; exact this
  · have := rsize_t x (Ari.ng x) w ho (fun w => run_fneg x w hx.out)
    rw [← sq_t x ho]; exact this
set_option maxRecDepth 100000 in
set_option maxHeartbeats 2000000 in
theorem pkept_n (b off N K cap : Nat) (xs : List Nat) (w : World) (hN : Hid (xs.length = N)) (hK : (N : Int) - 1 = (K : Int)) (hK0 : 0 < K) (hc : N ≤ cap) (hc2 : N ≤ 140737488355328) (h : Hid (∀ i, i < xs.length → w.cell? ⟨b, off + i, none⟩ = some (.float .f64 (xs.getD i 0)))) (hl : Hid (∀ i, i < xs.length → xs.getD i 0 < 18446744073709551616)) :
    Calls Try.prog 11 #[.slice (some ⟨b, off, none⟩) N cap] w (RFx w (co .add (kz xs).1 (kz xs).2)) := by
  have hN2 : decide ((N : Int) < 2) = false := decide_eq_false (by omega)
  have hcap : ¬ cap = 1 := by omega
  have c0 := h.out 0 (by rw [hN.out]; omega)
  have l0 : Hid (xs.getD 0 0 < 18446744073709551616) := hl.out 0 (by rw [hN.out]; omega)
  have f0 : Hid (kz (xs.take 1) = (bt (xs.getD 0 0), 0)) := kz_first (by rw [hN.out]; omega)
  rw [Nat.add_zero] at c0
  generalize xs.getD 0 0 = x0 at c0 l0 f0
  have ha := @run_fadd Try.prog
  have hsu := @run_fsub Try.prog
  go_enter Try.func11, Try.ntmps11
  go_wp2_with fail
  clear c0
  go_loopw [3, 4, 19] (fun ss sc si wr => ∃ (i s c : Nat), i ≤ K ∧ si = .int .i64 (i : Int) ∧ ss = .float .f64 s ∧ sc = .float .f64 c ∧ Hid (s < 18446744073709551616 ∧ bt s = bt (kz (xs.take (i + 1))).1 ∧ bt c = bt (kz (xs.take (i + 1))).2) ∧ Hid (Dr w wr)) (fun _ _ si _ => K - (intOf si).toNat)
  case atStart => exact ⟨0, x0, 0, Nat.zero_le _, rfl, rfl, rfl, ⟨l0.out, by rw [f0.out]; exact (bt_bt _).symm, by rw [f0.out]⟩, Dr.refl _⟩
  case round =>
    obtain ⟨i, s, c, hi, rfl, rfl, rfl, hb, hw⟩ := hrel
    by_cases hlt : i < K
    · have hlt' : (i : Int) < (K : Int) := by omega
      have hix : i + 1 < xs.length := by rw [hN.out]; omega
      have c1 : wr.cell? ⟨b, off + 1 + i, none⟩ = some (.float .f64 (xs.getD (i + 1) 0)) := by
        obtain ⟨q, e⟩ := hw.out
        rw [e, Nat.add_assoc, Nat.add_comm 1 i]; exact h.out (i + 1) hix
      have hx : Hid (kz (xs.take (i + 1 + 1)) = kstep (kz (xs.take (i + 1))) (xs.getD (i + 1) 0)) := kz_take (by omega) hix
      have hxl : Hid (xs.getD (i + 1) 0 < 18446744073709551616) := hl.out (i + 1) hix
      generalize xs.getD (i + 1) 0 = x at c1 hx hxl
      have hnew : Hid (∀ d W W', bt d = ls s x (fr .add s x W) → (fr .add s x W < 18446744073709551616 ∧ bt (fr .add s x W) = bt (kz (xs.take (i + 1 + 1))).1 ∧ bt (fr .add c d W') = bt (kz (xs.take (i + 1 + 1))).2)) := fun d W W' hd => by
        obtain ⟨_, b1, b2⟩ := hb.out
        have e0 : co .add s x = co .add (kz (xs.take (i + 1))).1 x := co_of b1 rfl
        refine ⟨fr_lt _ _ _ _, ?_, ?_⟩
        · rw [hx.out, bt_fr, e0]; exact (bt_co _ _ _).symm
        · rw [hx.out, bt_fr]
          show _ = bt (co .add _ _)
          rw [bt_co]
          refine co_of b2 ?_
          rw [hd, ls_bt]
          exact ls_of b1 (by rw [bt_fr, e0, bt_co])
      have hsl : Hid (s < 18446744073709551616) := hb.out.1
      clear hx hb
      have hcall : Hid (∀ t W, Calls Try.prog 25 #[.float .f64 s, .float .f64 x, .float .f64 t] W (RFx W (ls s x t))) := fun t W => loss_c s x t W hsl hxl
      go_wp2_with fail
      refine (hcall.out _ _).mono ?_
      rintro e w' ⟨d, k, rfl, rfl, hd, hdb⟩
      have hdbH : Hid (bt d = ls s x (fr .add s x wr)) := hdb
      clear hd hdb hcall
      go_wp2_with fail
      go_roundw
      case rel => exact ⟨i + 1, _, _, by omega, by go_num, rfl, rfl, hnew.out _ _ _ hdbH.out, hw.out.more _⟩
      case measure => simp [intOf]; omega
    · have hlt' : decide ((i : Int) < (K : Int)) = false := decide_eq_false (by omega)
      have hfin : Hid (∀ W, bt (fr .add s c W) = co .add (kz xs).1 (kz xs).2) := fun W => by
        obtain ⟨_, b1, b2⟩ := hb.out
        rw [List.take_of_length_le (by rw [hN.out]; omega)] at b1 b2
        rw [bt_fr]; exact co_of b1 b2
      have hfl : Hid (∀ W, fr .add s c W < 18446744073709551616) := fun W => fr_lt _ _ _ W
      clear hb
      go_wp2_with fail
      go_ret
      obtain ⟨q, e⟩ := hw.out
      exact ⟨_, q + fk .add s c, rfl, by rw [e, World.drewN_drewN], hfl.out _, hfin.out _⟩
set_option maxRecDepth 100000 in
set_option maxHeartbeats 400000 in
theorem pkept_s (v : Value) (ao : Option Addr) (cap : Nat) (xs : List Nat) (n : Nat) (w : World) (hv : Hid (v = .slice ao n cap)) (hn : (n : Int) < 2) (h : Hid (Calls Try.prog 23 #[.slice ao n cap] w (RFx w (lf xs)))) : Calls Try.prog 11 #[v] w (RFx w (lf xs)) := by
  rw [hv.out]
  go_enter Try.func11, Try.ntmps11
  go_wp2_with fail
  refine h.out.mono ?_
  rintro e w' ⟨x, k, rfl, rfl, hx, hb⟩
  have hxH : Hid (x < 18446744073709551616) := hx
  clear hx h hv
  go_wp2_with fail
  go_ret
  exact RFx.mk hxH.out hb
theorem pkept_c (v : Value) (xs : List Nat) (w : World) (h : Fv w v xs) : Calls Try.prog 11 #[v] w (RFx w (kp xs)) := by
  unfold kp
  by_cases hx : xs.length < 2
  · rw [if_pos hx]
    have hc := pleft_c v xs w h
    obtain ⟨ao, cap, e, _⟩ := h.sh
    rw [e] at hc
    exact pkept_s v ao cap xs xs.length w e (by omega) hc
  · rw [if_neg hx]
    obtain ⟨b, off, cap, rfl, h1, h2, _, h3⟩ := h.open (fun e => by rw [e] at hx; simp at hx)
    exact pkept_n b off xs.length (xs.length - 1) cap xs w rfl (by omega) (by omega) h1 h2 h3 h.at
set_option maxRecDepth 100000 in
set_option maxHeartbeats 2000000 in
theorem rkept_n (b off N K cap : Nat) (xs : List Nat) (w : World) (hN : Hid (xs.length = N)) (hK : (N : Int) - 1 = (K : Int)) (hK0 : 0 < K) (hc : N ≤ cap) (hc2 : N ≤ 140737488355328) (h : Hid (∀ i, i < xs.length → w.cell? ⟨b, off + i, none⟩ = some (.float .f64 (xs.getD i 0)))) (hl : Hid (∀ i, i < xs.length → xs.getD i 0 < 18446744073709551616)) :
    Calls Try.prog 17 #[.slice (some ⟨b, off, none⟩) N cap] w (RFx w (co .add (kz xs).1 (kz xs).2)) := by
  have hN2 : decide ((N : Int) < 2) = false := decide_eq_false (by omega)
  have hcap : ¬ cap = 1 := by omega
  have c0 := h.out 0 (by rw [hN.out]; omega)
  have l0 : Hid (xs.getD 0 0 < 18446744073709551616) := hl.out 0 (by rw [hN.out]; omega)
  have f0 : Hid (kz (xs.take 1) = (bt (xs.getD 0 0), 0)) := kz_first (by rw [hN.out]; omega)
  rw [Nat.add_zero] at c0
  generalize xs.getD 0 0 = x0 at c0 l0 f0
  have ha := @run_fadd Try.prog
  have hsu := @run_fsub Try.prog
  go_enter Try.func17, Try.ntmps17
  go_wp2_with fail
  clear c0
  go_loopw [3, 4, 21] (fun ss sc si wr => ∃ (i s c : Nat), i ≤ K ∧ si = .int .i64 (i : Int) ∧ ss = .float .f64 s ∧ sc = .float .f64 c ∧ Hid (s < 18446744073709551616 ∧ bt s = bt (kz (xs.take (i + 1))).1 ∧ bt c = bt (kz (xs.take (i + 1))).2) ∧ Hid (Dr w wr)) (fun _ _ si _ => K - (intOf si).toNat)
  case atStart => exact ⟨0, x0, 0, Nat.zero_le _, rfl, rfl, rfl, ⟨l0.out, by rw [f0.out]; exact (bt_bt _).symm, by rw [f0.out]⟩, Dr.refl _⟩
  case round =>
    obtain ⟨i, s, c, hi, rfl, rfl, rfl, hb, hw⟩ := hrel
    by_cases hlt : i < K
    · have hlt' : (i : Int) < (K : Int) := by omega
      have hix : i + 1 < xs.length := by rw [hN.out]; omega
      have c1 : wr.cell? ⟨b, off + 1 + i, none⟩ = some (.float .f64 (xs.getD (i + 1) 0)) := by
        obtain ⟨q, e⟩ := hw.out
        rw [e, Nat.add_assoc, Nat.add_comm 1 i]; exact h.out (i + 1) hix
      have hx : Hid (kz (xs.take (i + 1 + 1)) = kstep (kz (xs.take (i + 1))) (xs.getD (i + 1) 0)) := kz_take (by omega) hix
      have hxl : Hid (xs.getD (i + 1) 0 < 18446744073709551616) := hl.out (i + 1) hix
      generalize xs.getD (i + 1) 0 = x at c1 hx hxl
      have hnew : Hid (∀ d W W', bt d = ls s x (fr .add s x W) → (fr .add s x W < 18446744073709551616 ∧ bt (fr .add s x W) = bt (kz (xs.take (i + 1 + 1))).1 ∧ bt (fr .add c d W') = bt (kz (xs.take (i + 1 + 1))).2)) := fun d W W' hd => by
        obtain ⟨_, b1, b2⟩ := hb.out
        have e0 : co .add s x = co .add (kz (xs.take (i + 1))).1 x := co_of b1 rfl
        refine ⟨fr_lt _ _ _ _, ?_, ?_⟩
        · rw [hx.out, bt_fr, e0]; exact (bt_co _ _ _).symm
        · rw [hx.out, bt_fr]
          show _ = bt (co .add _ _)
          rw [bt_co]
          refine co_of b2 ?_
          rw [hd, ls_bt]
          exact ls_of b1 (by rw [bt_fr, e0, bt_co])
      have hsl : Hid (s < 18446744073709551616) := hb.out.1
      clear hx hb
      have hcs : Hid (∀ W, Calls Try.prog 32 #[.float .f64 s] W fun e w' => e = .returned (.float .f64 (sq s)) ∧ W = w') := fun W => rsize_c s W hsl
      have hcx : Hid (∀ W, Calls Try.prog 32 #[.float .f64 x] W fun e w' => e = .returned (.float .f64 (sq x)) ∧ W = w') := fun W => rsize_c x W hxl
      have hg := ge_sq s x hsl.out hxl.out
      unfold ge at hg
      have e1 : Hid (∀ a b c W W', bt (fr .add (fr .sub a b W) c W') = co .add (co .sub a b) c) := fun a b c W W' => by rw [bt_fr, co_fr_left]
      generalize hS : sq s = S at hcs hg
      generalize hX : sq x = X at hcx hg
      clear hS hX
      rcases ho : double.order S X with _ | (_ | _ | _)
      all_goals
        rw [ho] at hg
        have ho' : FloatKind.f64.format.order S X = _ := ho
        clear ho
        have hgH : Hid (big s x = _) := hg.symm
        clear hg
        go_wp2_with fail
        refine (hcs.out _).mono ?_
        rintro e w' ⟨rfl, rfl⟩
        go_wp2_with fail
        refine (hcx.out _).mono ?_
        rintro e w' ⟨rfl, rfl⟩
        go_wp2_with fail
        go_roundw
        case rel => exact ⟨i + 1, _, _, by omega, by go_num, rfl, rfl, hnew.out _ _ _ (by rw [e1.out]; unfold ls; rw [hgH.out]; rfl), hw.out.more _⟩
        case measure => simp [intOf]; omega
    · have hlt' : decide ((i : Int) < (K : Int)) = false := decide_eq_false (by omega)
      have hfin : Hid (∀ W, bt (fr .add s c W) = co .add (kz xs).1 (kz xs).2) := fun W => by
        obtain ⟨_, b1, b2⟩ := hb.out
        rw [List.take_of_length_le (by rw [hN.out]; omega)] at b1 b2
        rw [bt_fr]; exact co_of b1 b2
      have hfl : Hid (∀ W, fr .add s c W < 18446744073709551616) := fun W => fr_lt _ _ _ W
      clear hb
      go_wp2_with fail
      go_ret
      obtain ⟨q, e⟩ := hw.out
      exact ⟨_, q + fk .add s c, rfl, by rw [e, World.drewN_drewN], hfl.out _, hfin.out _⟩
set_option maxRecDepth 100000 in
set_option maxHeartbeats 400000 in
theorem rkept_s (v : Value) (ao : Option Addr) (cap : Nat) (xs : List Nat) (n : Nat) (w : World) (hv : Hid (v = .slice ao n cap)) (hn : (n : Int) < 2) (h : Hid (Calls Try.prog 15 #[.slice ao n cap] w (RFx w (lf xs)))) : Calls Try.prog 17 #[v] w (RFx w (lf xs)) := by
  rw [hv.out]
  go_enter Try.func17, Try.ntmps17
  go_wp2_with fail
  refine h.out.mono ?_
  rintro e w' ⟨x, k, rfl, rfl, hx, hb⟩
  have hxH : Hid (x < 18446744073709551616) := hx
  clear hx h hv
  go_wp2_with fail
  go_ret
  exact RFx.mk hxH.out hb
theorem rkept_c (v : Value) (xs : List Nat) (w : World) (h : Fv w v xs) : Calls Try.prog 17 #[v] w (RFx w (kp xs)) := by
  unfold kp
  by_cases hx : xs.length < 2
  · rw [if_pos hx]
    have hc := rleft_c v xs w h
    obtain ⟨ao, cap, e, _⟩ := h.sh
    rw [e] at hc
    exact rkept_s v ao cap xs xs.length w e (by omega) hc
  · rw [if_neg hx]
    obtain ⟨b, off, cap, rfl, h1, h2, _, h3⟩ := h.open (fun e => by rw [e] at hx; simp at hx)
    exact rkept_n b off xs.length (xs.length - 1) cap xs w rfl (by omega) (by omega) h1 h2 h3 h.at
end Go.Proofs.Ytmfnjmgdindlaaa
