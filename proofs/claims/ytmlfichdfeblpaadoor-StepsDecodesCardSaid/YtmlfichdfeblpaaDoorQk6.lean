/-
  Package pack: a Reader's Uint.
-/
import Derived.Test.YtmlfichdfeblpaaDoorQk5
import Derived.Test.YtmlfichdfeblpaaDoorPkr
namespace Go.Proofs.YtmlfichdfeblpaaDoor
open Flo Go.RowKit
/-- the error that is told -/
def ue {α : Type} (al : List Addr) (r : Except Nat α) : Value := match r with | .ok _ => .nilIface | .error c => ek al c
theorem drop_at {bs : List Nat} {i : Nat} (h : i < bs.length) : bs.drop i = bs.getD i 0 :: bs.drop (i + 1) := by
  rw [List.drop_eq_getElem_cons h]; simp [List.getD, h]
theorem getD_mem {bs : List Nat} {i : Nat} (h : i < bs.length) : bs.getD i 0 ∈ bs := by
  have : bs.getD i 0 = bs[i] := by simp [List.getD, h]
  rw [this]; exact List.getElem_mem h
theorem orsh {X b i : Nat} (hX : X < 128 ^ i) (hi : i ≤ 9) (hb : i = 9 → b ≤ 1) : bits .or .u64 (X : Int) (IntKind.u64.wrap ((b : Int) % 128 * 2 ^ (7 * i))) = ((X + b % 128 * 128 ^ i : Nat) : Int) := by
  have e1 : (128 : Nat) ^ i = 2 ^ (7 * i) := by rw [Nat.pow_mul]
  have e9 : (128 : Nat) ^ 9 = 9223372036854775808 := by decide
  have hlt : b % 128 * 128 ^ i < 18446744073709551616 := by
    by_cases h9 : i = 9
    · subst h9
      have : b % 128 * 128 ^ 9 ≤ 1 * 128 ^ 9 := Nat.mul_le_mul_right _ (by have := hb rfl; omega)
      omega
    · have h4 : 128 ^ (i + 1) ≤ 128 ^ 9 := Nat.pow_le_pow_right (by decide) (by omega)
      have h5 : b % 128 * 128 ^ i ≤ 127 * 128 ^ i := Nat.mul_le_mul_right _ (by omega)
      rw [Nat.pow_succ] at h4
      omega
  have hXl : X < 18446744073709551616 := by
    have h4 : 128 ^ i ≤ 128 ^ 9 := Nat.pow_le_pow_right (by decide) hi
    omega
  have e2 : (b : Int) % 128 * 2 ^ (7 * i) = ((b % 128 * 128 ^ i : Nat) : Int) := by rw [e1]; simp
  have e3 : IntKind.u64.wrap ((b % 128 * 128 ^ i : Nat) : Int) = ((b % 128 * 128 ^ i : Nat) : Int) := wrapId _ hlt
  rw [e2, e3, u64_or_nat _ _ hXl hlt]
  congr 1
  rw [e1] at hX ⊢
  rw [Nat.mul_comm, Nat.or_comm, ← Nat.two_pow_add_eq_or_of_lt hX, Nat.add_comm]
theorem orsh2 {X b i : Nat} (hX : X < 128 ^ i) (hi : i ≤ 9) (hb : i = 9 → b ≤ 1) : bits .or .u64 (X : Int) ((b : Int) % 128 * 2 ^ (7 * i)) = ((X + b % 128 * 128 ^ i : Nat) : Int) := by
  have e1 : (128 : Nat) ^ i = 2 ^ (7 * i) := by rw [Nat.pow_mul]
  have e9 : (128 : Nat) ^ 9 = 9223372036854775808 := by decide
  have hlt : b % 128 * 128 ^ i < 18446744073709551616 := by
    by_cases h9 : i = 9
    · subst h9
      have : b % 128 * 128 ^ 9 ≤ 1 * 128 ^ 9 := Nat.mul_le_mul_right _ (by have := hb rfl; omega)
      omega
    · have h4 : 128 ^ (i + 1) ≤ 128 ^ 9 := Nat.pow_le_pow_right (by decide) (by omega)
      have h5 : b % 128 * 128 ^ i ≤ 127 * 128 ^ i := Nat.mul_le_mul_right _ (by omega)
      rw [Nat.pow_succ] at h4
      omega
  have e2 : (b : Int) % 128 * 2 ^ (7 * i) = ((b % 128 * 128 ^ i : Nat) : Int) := by rw [e1]; simp
  have e3 : IntKind.u64.wrap ((b % 128 * 128 ^ i : Nat) : Int) = ((b % 128 * 128 ^ i : Nat) : Int) := wrapId _ hlt
  have := orsh hX hi hb
  rwa [e2, e3, ← e2] at this
theorem ux_ok (x n : Nat) : Pk.ux (.ok (x, n)) = x := rfl
theorem ud_ok (x n : Nat) : Pk.ud (.ok (x, n)) = n := rfl
/-- behind a refusal -/
theorem RrV.stay {R S : Nat → Prop} {w w' : World} {g k : Nat} {v : Value} {bs : List Nat} (h : RrV R w g v bs k) (hq : Qt w w') : Rr R w' g bs k ∧ Fr S w w' := ⟨⟨v, h.qt hq⟩, hq.fr S⟩
set_option maxRecDepth 100000 in
set_option maxHeartbeats 4000000 in
theorem ruint_n (R : Nat → Prop) (g k n q cap : Nat) (bs : List Nat) (al : List Addr) (r : Except Nat (Nat × Nat)) (w : World) (h : Hid (RrV R w g (.slice (some ⟨q, 0, none⟩) n cap) bs k)) (hn : Hid (n = bs.length)) (he : E4 w al) (hk : k < n) (hnc : n ≤ cap) (hbig : n ≤ 140737488355328)
    (hr : Hid (Pk.rv 0 0 (bs.drop k) = r)) :
    Calls Tryd.prog 43 #[.pointer (some ⟨g, 0, none⟩)] w fun e w' => e = .returned (.tuple #[.int .u64 (Pk.ux r : Nat), ue al r]) ∧ Rr R w' g bs (k + Pk.ud r) ∧ Fr (fun k => k = g) w w' := by
  have hc0 := h.out.c0
  have hc1 := h.out.c1
  have hfz := h.out.free
  have hes := he.short
  have hev := he.varint
  have hck : ¬ cap = k := by omega
  clear he
  go_enter Tryd.func43, Tryd.ntmps43
  go_wp2
  go_region
  go_wp2
  have hc0d : w.drew.cell? ⟨g, 0, none⟩ = some (.slice (some ⟨q, 0, none⟩) n cap) := hc0
  go_loop [4, 17] (fun sx si => ∃ X i : Nat, sx = .int .u64 (X : Int) ∧ si = .int .i64 (i : Int) ∧ i ≤ 9 ∧ k + i ≤ n ∧ Hid (X < 128 ^ i) ∧ Hid (Pk.rv i X (bs.drop (k + i)) = r)) (fun _ si => 10 - (intOf si).toNat)
  case atStart => exact ⟨0, 0, rfl, rfl, by decide, by omega, (by decide : 0 < 128 ^ 0), hr⟩
  case round =>
    obtain ⟨X, i, rfl, rfl, hi, hki, hX, hrv⟩ := hrel
    by_cases hlt : k + i < n
    · have hlt' : (i : Int) < (n : Int) - (k : Int) := by omega
      have hlt2 : i < n - k := by omega
      have hlt3 : k + i < bs.length := by have := hn.out; omega
      obtain ⟨q', cap', hqq, hcell⟩ := h.out.byte (k + i) hlt3
      have hb := h.out.byt _ (getD_mem hlt3)
      have hdr : Hid (bs.drop (k + i) = bs.getD (k + i) 0 :: bs.drop (k + i + 1)) := drop_at hlt3
      generalize bs.getD (k + i) 0 = b at hcell hb hdr
      injection hqq with hq1 hq2 hq3
      injection hq1 with hq1
      injection hq1 with hq1
      subst hq1
      clear hq2 hq3
      by_cases h9 : i = 9
      · have h9H : Hid (i = 9) := h9
        have h9' : ((i : Int) == 9) = true := beq_iff_eq.2 (by omega)
        clear h9
        by_cases hb1 : 1 < b
        · have hb1' : (1 : Int) < (b : Int) := by omega
          have hfin : Hid (r = .error 1) := by rw [← hrv.out, hdr.out]; exact Pk.rv_nine h9H.out hb1
          clear hrv hdr hX
          go_wp2
          go_region
          go_wp2
          go_ret2
          rw [hfin.out]
          exact ⟨rfl, h.out.stay ⟨rfl, rfl, rfl, rfl⟩⟩
        · have hb1' : decide ((1 : Int) < (b : Int)) = false := decide_eq_false (by omega)
          have hno : Hid (¬ (i = 9 ∧ 1 < b)) := fun hh => hb1 hh.2
          obtain ⟨Y, hY⟩ : ∃ Y, Hid (Y = X + b % 128 * 128 ^ i) := ⟨_, rfl⟩
          have hor : bits .or .u64 (X : Int) (IntKind.u64.wrap ((b : Int) % 128 * 2 ^ (7 * i))) = (Y : Int) := by rw [hY.out]; exact orsh hX.out hi (fun _ => by omega)
          have hor2 : bits .or .u64 (X : Int) ((b : Int) % 128 * 2 ^ (7 * i)) = (Y : Int) := by rw [hY.out]; exact orsh2 hX.out hi (fun _ => by omega)
          by_cases hb8 : b < 128
          · have hb7 : Hid (b < 128) := hb8
            have hb8' : (b : Int) < 128 := by omega
            clear hb8
            by_cases hb0 : b = 0
            · have hb0H : Hid (b = 0) := hb0
              have hb0' : ((b : Int) == 0) = true := beq_iff_eq.2 (by omega)
              clear hb0
              by_cases hi0 : 0 < i
              · have hi0' : (0 : Int) < (i : Int) := by omega
                have hfin : Hid (r = .error 1) := by rw [← hrv.out, hdr.out]; exact Pk.rv_zero hno.out hb0H.out hi0
                clear hrv hdr hX
                go_wp2
                go_region
                go_wp2
                go_ret2
                rw [hfin.out]
                exact ⟨rfl, h.out.stay ⟨rfl, rfl, rfl, rfl⟩⟩
              · have hi0' : decide ((0 : Int) < (i : Int)) = false := decide_eq_false (by omega)
                have hz0 : Hid (¬ (b = 0 ∧ 0 < i)) := fun hh => hi0 hh.2
                have hfin : Hid (r = .ok (Y, i + 1)) := by rw [← hrv.out, hdr.out, hY.out]; exact Pk.rv_last hno.out hb7.out hz0.out
                clear hrv hdr hX hY hz0 hno
                go_wp2
                go_ret2
                have e5 : (k : Int) + ((i : Int) + 1) = ((k + (i + 1) : Nat) : Int) := by omega
                rw [hfin.out, e5]
                exact ⟨rfl, ⟨_, (h.out.move (j := k + (i + 1)) (by have := hn.out; omega)).qt (Qt.drew _)⟩, (mv_fr w g _).drew⟩
            · have hb0' : ((b : Int) == 0) = false := beq_eq_false_iff_ne.2 (by omega)
              have hz0 : Hid (¬ (b = 0 ∧ 0 < i)) := fun hh => hb0 hh.1
              clear hb0
              have hfin : Hid (r = .ok (Y, i + 1)) := by rw [← hrv.out, hdr.out, hY.out]; exact Pk.rv_last hno.out hb7.out hz0.out
              clear hrv hdr hX hY hz0 hno
              go_wp2
              go_ret2
              have e5 : (k : Int) + ((i : Int) + 1) = ((k + (i + 1) : Nat) : Int) := by omega
              rw [hfin.out, e5]
              exact ⟨rfl, ⟨_, (h.out.move (j := k + (i + 1)) (by have := hn.out; omega)).qt (Qt.drew _)⟩, (mv_fr w g _).drew⟩
          · have hb8' : decide ((b : Int) < 128) = false := decide_eq_false (by omega)
            have hnext : Hid (Pk.rv (i + 1) Y (bs.drop (k + i + 1)) = r) := by rw [← hrv.out, hdr.out, hY.out]; exact (Pk.rv_more hno.out hb8).symm
            have hXn : Hid (Y < 128 ^ (i + 1)) := by
              show _ < _
              have h5 : b % 128 * 128 ^ i ≤ 127 * 128 ^ i := Nat.mul_le_mul_right _ (by omega)
              have := hX.out
              rw [hY.out, Nat.pow_succ]; omega
            have hi1 : Hid (i + 1 ≤ 9) := by show _ ≤ _; have := hno.out; omega
            clear hrv hdr hX hY hno
            go_wp2
            go_round
            case rel => exact ⟨Y, i + 1, rfl, by go_num, hi1.out, by omega, hXn, hnext⟩
            case measure => simp [intOf]; omega
      · have h9' : ((i : Int) == 9) = false := beq_eq_false_iff_ne.2 (by omega)
        have hno : Hid (¬ (i = 9 ∧ 1 < b)) := fun hh => h9 hh.1
        obtain ⟨Y, hY⟩ : ∃ Y, Hid (Y = X + b % 128 * 128 ^ i) := ⟨_, rfl⟩
        have hor : bits .or .u64 (X : Int) (IntKind.u64.wrap ((b : Int) % 128 * 2 ^ (7 * i))) = (Y : Int) := by rw [hY.out]; exact orsh hX.out hi (fun hh => absurd hh h9)
        have hor2 : bits .or .u64 (X : Int) ((b : Int) % 128 * 2 ^ (7 * i)) = (Y : Int) := by rw [hY.out]; exact orsh2 hX.out hi (fun hh => absurd hh h9)
        by_cases hb8 : b < 128
        · have hb7 : Hid (b < 128) := hb8
          have hb8' : (b : Int) < 128 := by omega
          clear hb8
          by_cases hb0 : b = 0
          · have hb0H : Hid (b = 0) := hb0
            have hb0' : ((b : Int) == 0) = true := beq_iff_eq.2 (by omega)
            clear hb0
            by_cases hi0 : 0 < i
            · have hi0' : (0 : Int) < (i : Int) := by omega
              have hfin : Hid (r = .error 1) := by rw [← hrv.out, hdr.out]; exact Pk.rv_zero hno.out hb0H.out hi0
              clear hrv hdr hX
              go_wp2
              go_region
              go_wp2
              go_ret2
              rw [hfin.out]
              exact ⟨rfl, h.out.stay ⟨rfl, rfl, rfl, rfl⟩⟩
            · have hi0' : decide ((0 : Int) < (i : Int)) = false := decide_eq_false (by omega)
              have hz0 : Hid (¬ (b = 0 ∧ 0 < i)) := fun hh => hi0 hh.2
              have hfin : Hid (r = .ok (Y, i + 1)) := by rw [← hrv.out, hdr.out, hY.out]; exact Pk.rv_last hno.out hb7.out hz0.out
              clear hrv hdr hX hY hz0 hno
              go_wp2
              go_ret2
              have e5 : (k : Int) + ((i : Int) + 1) = ((k + (i + 1) : Nat) : Int) := by omega
              rw [hfin.out, e5]
              exact ⟨rfl, ⟨_, (h.out.move (j := k + (i + 1)) (by have := hn.out; omega)).qt (Qt.drew _)⟩, (mv_fr w g _).drew⟩
          · have hb0' : ((b : Int) == 0) = false := beq_eq_false_iff_ne.2 (by omega)
            have hz0 : Hid (¬ (b = 0 ∧ 0 < i)) := fun hh => hb0 hh.1
            clear hb0
            have hfin : Hid (r = .ok (Y, i + 1)) := by rw [← hrv.out, hdr.out, hY.out]; exact Pk.rv_last hno.out hb7.out hz0.out
            clear hrv hdr hX hY hz0 hno
            go_wp2
            go_ret2
            have e5 : (k : Int) + ((i : Int) + 1) = ((k + (i + 1) : Nat) : Int) := by omega
            rw [hfin.out, e5]
            exact ⟨rfl, ⟨_, (h.out.move (j := k + (i + 1)) (by have := hn.out; omega)).qt (Qt.drew _)⟩, (mv_fr w g _).drew⟩
        · have hb8' : decide ((b : Int) < 128) = false := decide_eq_false (by omega)
          have hnext : Hid (Pk.rv (i + 1) Y (bs.drop (k + i + 1)) = r) := by rw [← hrv.out, hdr.out, hY.out]; exact (Pk.rv_more hno.out hb8).symm
          have hXn : Hid (Y < 128 ^ (i + 1)) := by
            show _ < _
            have h5 : b % 128 * 128 ^ i ≤ 127 * 128 ^ i := Nat.mul_le_mul_right _ (by omega)
            have := hX.out
            rw [hY.out, Nat.pow_succ]; omega
          have hi1 : Hid (i + 1 ≤ 9) := by show _ ≤ _; have := hno.out; omega
          clear hrv hdr hX hY hno
          go_wp2
          go_round
          case rel => exact ⟨Y, i + 1, rfl, by go_num, hi1.out, by omega, hXn, hnext⟩
          case measure => simp [intOf]; omega
    · have hlt' : decide ((i : Int) < (n : Int) - (k : Int)) = false := decide_eq_false (by omega)
      have hlt2 : ¬ i < n - k := by omega
      have hfin : Hid (r = .error 0) := by
        rw [← hrv.out, List.drop_eq_nil_of_le (by have := hn.out; omega)]; rfl
      clear hrv hX
      go_wp2
      go_region
      go_wp2
      go_ret2
      rw [hfin.out]
      exact ⟨rfl, h.out.stay ⟨rfl, rfl, rfl, rfl⟩⟩
--TAIL
set_option maxRecDepth 100000 in
set_option maxHeartbeats 4000000 in
theorem ruint_e0 (R : Nat → Prop) (g : Nat) (bs : List Nat) (al : List Addr) (w : World) (h : Hid (RrV R w g (.slice none 0 0) bs 0)) (he : E4 w al) :
    Calls Tryd.prog 43 #[.pointer (some ⟨g, 0, none⟩)] w fun e w' => e = .returned (.tuple #[.int .u64 0, ek al 0]) ∧ Qt w w' := by
  have hc0 := h.out.c0
  have hc1 : w.cell? ⟨g, 1, none⟩ = some (.int .i64 0) := h.out.c1
  have hes := he.short
  clear he
  go_enter Tryd.func43, Tryd.ntmps43
  go_wp2
  go_region
  go_wp2
  refine wp_loop_rounds 1 ?_
  rw [rounds_succ]
  go_wp2
  go_region
  go_wp2
  go_ret2
  exact ⟨rfl, ⟨rfl, rfl, rfl, rfl⟩⟩
set_option maxRecDepth 100000 in
set_option maxHeartbeats 4000000 in
theorem ruint_e (R : Nat → Prop) (g n cap q : Nat) (bs : List Nat) (al : List Addr) (w : World) (h : Hid (RrV R w g (.slice (some ⟨q, 0, none⟩) n cap) bs n)) (he : E4 w al) (hnc : n < cap) :
    Calls Tryd.prog 43 #[.pointer (some ⟨g, 0, none⟩)] w fun e w' => e = .returned (.tuple #[.int .u64 0, ek al 0]) ∧ Qt w w' := by
  have hck : ¬ cap = n := by omega
  have hle : n ≤ cap := by omega
  have hc0 := h.out.c0
  have hc1 := h.out.c1
  have hes := he.short
  clear he
  go_enter Tryd.func43, Tryd.ntmps43
  go_wp2
  go_region
  go_wp2
  refine wp_loop_rounds 1 ?_
  rw [rounds_succ]
  go_wp2
  go_region
  go_wp2
  go_ret2
  exact ⟨rfl, ⟨rfl, rfl, rfl, rfl⟩⟩
set_option maxRecDepth 100000 in
set_option maxHeartbeats 4000000 in
theorem ruint_e1 (R : Nat → Prop) (g n q : Nat) (bs : List Nat) (al : List Addr) (w : World) (h : Hid (RrV R w g (.slice (some ⟨q, 0, none⟩) n n) bs n)) (he : E4 w al) :
    Calls Tryd.prog 43 #[.pointer (some ⟨g, 0, none⟩)] w fun e w' => e = .returned (.tuple #[.int .u64 0, ek al 0]) ∧ Qt w w' := by
  have hc0 := h.out.c0
  have hc1 := h.out.c1
  have hes := he.short
  clear he
  go_enter Tryd.func43, Tryd.ntmps43
  go_wp2
  go_region
  go_wp2
  refine wp_loop_rounds 1 ?_
  rw [rounds_succ]
  go_wp2
  go_region
  go_wp2
  go_ret2
  exact ⟨rfl, ⟨rfl, rfl, rfl, rfl⟩⟩
theorem ruint_c (R : Nat → Prop) (g k : Nat) (bs : List Nat) (al : List Addr) (w : World) (h : Rr R w g bs k) (he : E4 w al) :
    Calls Tryd.prog 43 #[.pointer (some ⟨g, 0, none⟩)] w fun e w' => e = .returned (.tuple #[.int .u64 (Pk.ux (Pk.rv 0 0 (bs.drop k)) : Nat), ue al (Pk.rv 0 0 (bs.drop k))]) ∧ Rr R w' g bs (k + Pk.ud (Pk.rv 0 0 (bs.drop k))) ∧ Fr (fun k => k = g) w w' := by
  obtain ⟨v, h⟩ := h
  have hh : w.ownsRow 0 5 1 v bs.length (bc bs) := h.own
  have hb := h.big
  by_cases hk : k < bs.length
  · rcases hh.2 with ⟨rfl, h1⟩ | ⟨q, cap, cur, rfl, hbg, hg, hnc, hcm, hcs, htake⟩
    · omega
    · exact ruint_n R g k bs.length q cap bs al _ w h rfl he hk hnc hb rfl
  · have hkn : k = bs.length := by have := h.le; omega
    subst hkn
    rw [List.drop_length]
    rcases hh.2 with ⟨rfl, h1⟩ | ⟨q, cap, cur, rfl, hbg, hg, hnc, hcm, hcs, htake⟩
    · have hv : Hid (RrV R w g (.slice none 0 0) bs 0) := by rw [h1] at h; exact h
      exact (ruint_e0 R g bs al w hv he).mono fun e w' ⟨h2, h3⟩ => ⟨h2, h.stay h3⟩
    · by_cases hcn : bs.length < cap
      · exact (ruint_e R g bs.length cap _ bs al w h he hcn).mono fun e w' ⟨h2, h3⟩ => ⟨h2, h.stay h3⟩
      · have hc : cap = bs.length := by omega
        have hv : Hid (RrV R w g (.slice (some ⟨q, 0, none⟩) bs.length bs.length) bs bs.length) := by rw [hc] at h; exact h
        exact (ruint_e1 R g bs.length _ bs al w hv he).mono fun e w' ⟨h2, h3⟩ => ⟨h2, h.stay h3⟩
end Go.Proofs.YtmlfichdfeblpaaDoor
