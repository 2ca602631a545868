/-
  Package pack: a Reader's fixed, Float, Complex.
-/
import Derived.Test.YtjckgcjcpmnhhaaDoorPk8
namespace Go.Proofs.YtjckgcjcpmnhhaaDoor
open Flo Go.RowKit
theorem or8 {X b i : Nat} (hX : X < 256 ^ i) (hi : i ≤ 7) (hb : b < 256) : b * 256 ^ i < 18446744073709551616 ∧ (X ||| b * 256 ^ i) = X + b * 256 ^ i ∧ X + b * 256 ^ i < 256 ^ (i + 1) := by
  have e1 : (256 : Nat) ^ i = 2 ^ (8 * i) := by rw [Nat.pow_mul]
  have e8 : (256 : Nat) ^ 8 = 18446744073709551616 := by decide
  have h4 : 256 ^ (i + 1) ≤ 256 ^ 8 := Nat.pow_le_pow_right (by decide) (by omega)
  have h5 : b * 256 ^ i ≤ 255 * 256 ^ i := Nat.mul_le_mul_right _ (by omega)
  rw [Nat.pow_succ] at h4 ⊢
  refine ⟨by omega, ?_, by omega⟩
  rw [e1] at hX ⊢
  rw [Nat.mul_comm, Nat.or_comm, ← Nat.two_pow_add_eq_or_of_lt hX, Nat.add_comm]
theorem or8s {X b i : Nat} (hX : X < 256 ^ i) (hi : i ≤ 7) (hb : b < 256) : bits .or .u64 (X : Int) ((b : Int) * 2 ^ (8 * i)) = ((X + b * 256 ^ i : Nat) : Int) := by
  obtain ⟨h1, h2, h3⟩ := or8 hX hi hb
  have e1 : (256 : Nat) ^ i = 2 ^ (8 * i) := by rw [Nat.pow_mul]
  have e2 : (b : Int) * 2 ^ (8 * i) = ((b * 256 ^ i : Nat) : Int) := by rw [e1]; simp
  have hXl : X < 18446744073709551616 := by
    have h4 : 256 ^ i ≤ 256 ^ 7 := Nat.pow_le_pow_right (by decide) hi
    have e8 : (256 : Nat) ^ 7 = 72057594037927936 := by decide
    omega
  rw [e2, u64_or_nat _ _ hXl h1, h2]
theorem or8w {X b i : Nat} (hX : X < 256 ^ i) (hi : i ≤ 7) (hb : b < 256) : bits .or .u64 (X : Int) (IntKind.u64.wrap ((b : Int) * 2 ^ (8 * i))) = ((X + b * 256 ^ i : Nat) : Int) := by
  have e1 : (256 : Nat) ^ i = 2 ^ (8 * i) := by rw [Nat.pow_mul]
  have e2 : (b : Int) * 2 ^ (8 * i) = ((b * 256 ^ i : Nat) : Int) := by rw [e1]; simp
  have e3 : IntKind.u64.wrap ((b * 256 ^ i : Nat) : Int) = ((b * 256 ^ i : Nat) : Int) := wrapId _ (or8 hX hi hb).1
  rw [e2, e3, ← e2]; exact or8s hX hi hb
/-- the number of m bytes from place p on -/
def nf (bs : List Nat) (p m : Nat) : Nat := Pk.un ((bs.drop p).take m)
theorem nf_succ {bs : List Nat} {p i : Nat} (h : p + i < bs.length) : nf bs p (i + 1) = nf bs p i + bs.getD (p + i) 0 * 256 ^ i := by
  unfold nf
  have hl : i < (bs.drop p).length := by rw [List.length_drop]; omega
  rw [List.take_succ_eq_append_getElem hl, Pk.un_snoc, List.length_take, Nat.min_eq_left (by omega)]
  have : bs.getD (p + i) 0 = bs[p + i] := by simp [List.getD, h]
  rw [this, List.getElem_drop]
theorem nf_lt {bs : List Nat} (hb : ∀ b ∈ bs, b < 256) {p m : Nat} (h : p + m ≤ bs.length) : nf bs p m < 256 ^ m := by
  have h1 := Pk.un_lt ((bs.drop p).take m) fun b h => hb b (List.mem_of_mem_drop (List.mem_of_mem_take h))
  rw [List.length_take, List.length_drop, Nat.min_eq_left (by omega)] at h1
  exact h1
theorem nf_lo {bs : List Nat} (hb : ∀ b ∈ bs, b < 256) {p m : Nat} (h : p + m ≤ bs.length) : Pk.lo m (nf bs p m) = (bs.drop p).take m := by
  have h1 := Pk.lo_un ((bs.drop p).take m) fun b h => hb b (List.mem_of_mem_drop (List.mem_of_mem_take h))
  rw [List.length_take, List.length_drop, Nat.min_eq_left (by omega)] at h1
  exact h1
theorem nf_8 {bs : List Nat} (hb : ∀ b ∈ bs, b < 256) {p : Nat} (h : p + 8 ≤ bs.length) : nf bs p 8 < 18446744073709551616 := nf_lt hb h
set_option maxRecDepth 100000 in
set_option maxHeartbeats 4000000 in
theorem rfixed_c (R : Nat → Prop) (g k p m : Nat) (bs : List Nat) (w : World) (h : Rr R w g bs k) (hm : m ≤ 8) (hp : p ≤ 8) (hkp : k + p + m ≤ bs.length) :
    Calls Tryd.prog 72 #[.pointer (some ⟨g, 0, none⟩), .int .i64 p, .int .i64 m] w fun e w' => e = .returned (.int .u64 (nf bs (k + p) m : Nat)) ∧ Qt w w' := by
  obtain ⟨v, h⟩ := h
  have hH : Hid (RrV R w g v bs k) := h
  have hkl : k ≤ 140737488355328 := Nat.le_trans h.le h.big
  clear h
  go_enter Tryd.func72, Tryd.ntmps72
  go_wp2
  go_loopw [7, 10] (fun sx si wr => ∃ X i : Nat, sx = .int .u64 (X : Int) ∧ si = .int .i64 (i : Int) ∧ i ≤ m ∧ Hid (X = nf bs (k + p) i) ∧ Hid (Qt w wr)) (fun _ si _ => m - (intOf si).toNat)
  case atStart => exact ⟨0, 0, rfl, rfl, Nat.zero_le _, by unfold nf; rw [List.take_zero]; rfl, Qt.refl _⟩
  case round =>
    obtain ⟨X, i, rfl, rfl, hi, hX, hq⟩ := hrel
    by_cases hlt : i < m
    · have hlt' : (i : Int) < (m : Int) := by omega
      have hr := hH.out.qt hq.out
      have hlb : k + p + i < bs.length := by omega
      obtain ⟨q, cap, rfl, hcell⟩ := hr.byte (k + p + i) hlb
      have hc0 := hr.c0
      have hc1 := hr.c1
      have hb := hr.byt _ (getD_mem hlb)
      have hXl : X < 256 ^ i := by rw [hX.out]; exact nf_lt hr.byt (by omega)
      have hnx : Hid (X + bs.getD (k + p + i) 0 * 256 ^ i = nf bs (k + p) (i + 1)) := by rw [hX.out]; exact (nf_succ hlb).symm
      generalize bs.getD (k + p + i) 0 = b at hcell hb hnx
      have ho1 := or8w hXl (by omega) hb
      have ho2 := or8s hXl (by omega) hb
      obtain ⟨Y, hY⟩ : ∃ Y, X + b * 256 ^ i = Y := ⟨_, rfl⟩
      rw [hY] at ho1 ho2 hnx
      have hqd : Hid (Qt w wr.drew) := hq.out.trans (Qt.drew _)
      have hlb' : (k : Int) + (p : Int) + (i : Int) < (bs.length : Int) := by omega
      have hnn : (0 : Int) ≤ (k : Int) + (p : Int) + (i : Int) := by omega
      clear hr hX hY hXl hq
      go_wp2
      go_region
      go_wp2
      go_roundw
      case rel => exact ⟨Y, i + 1, rfl, by go_num, by omega, hnx, hqd⟩
      case measure => simp [intOf]; omega
    · have hlt' : decide ((i : Int) < (m : Int)) = false := decide_eq_false (by omega)
      have hfin : Hid (X = nf bs (k + p) m) := by have := hX.out; rw [show i = m by omega] at this; exact this
      clear hX
      go_wp2
      go_ret
      exact ⟨ret_int (congrArg Nat.cast hfin.out), hq.out⟩
/-- a float that is read -/
def rfl_ (bs : List Nat) (k : Nat) : Except Nat (Nat × Nat) := if bs.length - k < 8 then .error 0 else if bt (nf bs k 8) = nf bs k 8 then .ok (nf bs k 8, 8) else .error 12
/-- a complex number that is read -/
def rcx (bs : List Nat) (k : Nat) : Except Nat ((Nat × Nat) × Nat) := if bs.length - k < 16 then .error 0 else if bt (nf bs k 8) = nf bs k 8 ∧ bt (nf bs (k + 8) 8) = nf bs (k + 8) 8 then .ok ((nf bs k 8, nf bs (k + 8) 8), 16) else .error 12
/-- its value -/
def cxv (r : Except Nat ((Nat × Nat) × Nat)) : Value := match r with | .ok ((a, b), _) => .complex .f64 a b | .error _ => .complex .f64 0 0
theorem rfl_bd {bs : List Nat} {k : Nat} (hk : k ≤ bs.length) : k + Pk.ud (rfl_ bs k) ≤ bs.length := by
  unfold rfl_
  split
  · exact hk
  · split
    · show k + 8 ≤ _; omega
    · exact hk
theorem rcx_bd {bs : List Nat} {k : Nat} (hk : k ≤ bs.length) : k + Pk.ud (rcx bs k) ≤ bs.length := by
  unfold rcx
  split
  · exact hk
  · split
    · show k + 16 ≤ _; omega
    · exact hk
set_option maxHeartbeats 1000000 in
theorem strange_c (b : Nat) (w : World) (h : b < 18446744073709551616) :
    Calls Tryd.prog 73 #[.int .u64 (b : Int)] w fun e w' => e = .returned (.bool ((bt b : Int) != (b : Int))) ∧ w = w' := by
  go_enter Tryd.func73, Tryd.ntmps73
  go_wp2_with fail
  refine (of_c (b : Int) w).mono ?_
  rintro e w' ⟨rfl, rfl⟩
  rw [Int.toNat_natCast]
  go_wp2_with fail
  refine (bits_c b w h).mono ?_
  rintro e w' ⟨rfl, rfl⟩
  go_wp2
  go_ret
  exact ⟨rfl, rfl⟩
set_option maxRecDepth 100000 in
set_option maxHeartbeats 4000000 in
theorem rfloat_c (R : Nat → Prop) (g k : Nat) (bs : List Nat) (al : List Addr) (w : World) (h : Rr R w g bs k) (he : E5 w al) :
    Calls Tryd.prog 30 #[.pointer (some ⟨g, 0, none⟩)] w fun e w' => e = .returned (.tuple #[.float .f64 (Pk.ux (rfl_ bs k)), ue al (rfl_ bs k)]) ∧ Rr R w' g bs (k + Pk.ud (rfl_ bs k)) ∧ Fr (fun k => k = g) w w' := by
  have hH : Hid (Rr R w g bs k) := h
  have heH : Hid (E5 w al) := he
  have hle := h.le
  have hbig := h.big
  have hkb : k ≤ 140737488355328 := by omega
  clear h he
  go_enter Tryd.func30, Tryd.ntmps30
  go_wp2_with fail
  refine (rleft_c R g k bs w hH.out).mono ?_
  rintro e w1 ⟨m, rfl, hm, hq⟩
  have hqH : Hid (Qt w w1) := hq
  have hs := (heH.out.below (hq.below _)).short
  clear hq
  by_cases hk : bs.length - k < 8
  · have hfin : Hid (rfl_ bs k = .error 0) := if_pos hk
    have h1 : (m : Int) < 8 := by have := hm.out; omega
    clear hm hk hle hbig hkb
    go_wp2
    go_region
    go_wp2
    go_ret2
    rw [hfin.out]
    exact ⟨rfl, hH.out.qt (hqH.out.trans (Qt.drew _)), (hqH.out.fr _).drew⟩
  · have h1 : decide ((m : Int) < 8) = false := decide_eq_false (by have := hm.out; omega)
    have h2 : ¬ m < 8 := by have := hm.out; omega
    have hk8 : Hid (k + 8 ≤ bs.length) := by show _ ≤ _; omega
    have hif : Hid (rfl_ bs k = if bt (nf bs k 8) = nf bs k 8 then .ok (nf bs k 8, 8) else .error 12) := if_neg hk
    have hxl : Hid (nf bs k 8 < 18446744073709551616) := nf_8 hH.out.byt hk8.out
    have hfx := rfixed_c R g k 0 8 bs w1 (hH.out.qt hqH.out) (by decide) (by decide) (by have := hk8.out; omega)
    rw [Nat.add_zero] at hfx
    have hfxH : Hid (Calls Tryd.prog 72 #[.pointer (some ⟨g, 0, none⟩), .int .i64 0, .int .i64 8] w1 fun e w' => e = .returned (.int .u64 (nf bs k 8 : Nat)) ∧ Qt w1 w') := hfx
    clear hm hk hfx hs hle hbig
    generalize nf bs k 8 = x at hif hxl hfxH
    go_wp2_with fail
    refine hfxH.out.mono ?_
    rintro e w2 ⟨rfl, hq2⟩
    have hq2H : Hid (Qt w w2) := hqH.out.trans hq2
    have hnn := (heH.out.below (hq2H.out.below _)).number
    obtain ⟨v, hv⟩ := hH.out.qt hq2H.out
    have hc1 := hv.c1
    have hz := hv.free
    have hmv : Hid (RrV R (w2.setCell ⟨g, 1, none⟩ (.int .i64 ((k + 8 : Nat) : Int))) g v bs (k + 8)) := hv.move hk8.out
    have hcast : Hid ((k : Int) + 8 = ((k + 8 : Nat) : Int)) := (by omega : (k : Int) + 8 = ((k + 8 : Nat) : Int))
    clear hq2 hv
    go_wp2_with fail
    refine (strange_c x w2 hxl.out).mono ?_
    rintro e w' ⟨rfl, rfl⟩
    by_cases hb : bt x = x
    · have hne : ((bt x : Int) != (x : Int)) = false := by rw [hb]; simp
      rw [hne]
      have hfin : Hid (rfl_ bs k = .ok (x, 8)) := by rw [hif.out, if_pos hb]; rfl
      clear hne hb hif hxl
      go_wp2_with fail
      refine (of_c (x : Int) _).mono ?_
      rintro e w' ⟨rfl, rfl⟩
      rw [Int.toNat_natCast]
      go_wp2
      go_ret2
      rw [hfin.out]
      refine ⟨rfl, ⟨v, ?_⟩, ?_⟩
      · rw [hcast.out]; exact hmv.out
      · exact Fr.setCell (S := fun k => k = g) (p := ⟨g, 1, none⟩) (hq2H.out.fr _) rfl _
    · have hne : ((bt x : Int) != (x : Int)) = true := by
        have : (bt x : Int) ≠ (x : Int) := by omega
        simpa using this
      rw [hne]
      have hfin : Hid (rfl_ bs k = .error 12) := by rw [hif.out, if_neg hb]; rfl
      clear hne hb hif hxl
      go_wp2
      go_region
      go_wp2
      go_ret2
      rw [hfin.out]
      exact ⟨rfl, hH.out.qt (hq2H.out.trans (Qt.drew _)), (hq2H.out.fr _).drew⟩
end Go.Proofs.YtjckgcjcpmnhhaaDoor
