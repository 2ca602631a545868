/-
  The statements' own texts: small, written.
-/
import Derived.Test.YtoojjefndkdnpabDoorStr
import Derived.Laws.IdiomStrings
namespace Go.Proofs.YtoojjefndkdnpabDoor
open Flo Go.RowKit
theorem one_byte (W : World) (d : Nat) (hd : d < 256) :
    (convert 35 9 (.slice (some ⟨W.heap.size, 0, none⟩) 1 1)).run Tryd.prog (W.alloc (.cells #[.int .u8 (d : Int)] 5)) = .ok (.string (B [UInt8.ofNat d])) (W.alloc (.cells #[.int .u8 (d : Int)] 5)) := by
  have h := run_convert_bytes_back (P := Tryd.prog) (W.alloc (.cells #[.int .u8 (d : Int)] 5)) 35 9 5 ⟨W.heap.size, 0, none⟩ 1 [UInt8.ofNat d] Tryd.underlying35 Tryd.underlying5 Tryd.underlying9 (fun j hj => by
    have : j = 0 := by simp at hj; omega
    subst this
    have e : (UInt8.ofNat d).toNat = d := by rw [UInt8.toNat_ofNat']; exact Nat.mod_eq_of_lt hd
    simp [Addr.add, e])
  exact h
/-- digits of a number -/
structure Ds (n : Nat) (l : List UInt8) : Prop where
  dig : ∀ b ∈ l, Dg.isD b = true
  ne : l ≠ []
  val : Dg.dv l = n
  len : l.length ≤ 20
theorem ofNat_dig {d : Nat} (h : d < 10) : (UInt8.ofNat (48 + d)).toNat = 48 + d := by rw [UInt8.toNat_ofNat']; exact Nat.mod_eq_of_lt (by omega)
theorem dv_cons (x : UInt8) (l : List UInt8) : Dg.dv (x :: l) = (x.toNat - 48) * 10 ^ l.length + Dg.dv l := by
  have e : Dg.dv (x :: l) = Dg.dv [x] * 10 ^ l.length + Dg.dv l := Dg.dv_append [x] l
  rw [e]; simp [Dg.dv]
theorem isD_of {d : Nat} (h : d < 10) : Dg.isD (UInt8.ofNat (48 + d)) = true := by
  unfold Dg.isD; rw [ofNat_dig h]; exact decide_eq_true (by omega)
/-- on the way: k is what is left, its last digit written -/
structure Dn (n k : Nat) (l : List UInt8) : Prop where
  dig : ∀ b ∈ l, Dg.isD b = true
  ne : l ≠ []
  val : Dg.dv l + k / 10 * 10 ^ l.length = n
  lt : k < 10 ^ (19 - l.length)
theorem Dn.step {n k : Nat} {l : List UInt8} (h : Dn n k l) (h9 : 9 < k) : Dn n (k / 10) (UInt8.ofNat (48 + k / 10 % 10) :: l) ∧ l.length + 1 ≤ 19 := by
  have hlen : l.length + 2 ≤ 19 := by
    apply Nat.le_of_not_lt
    intro hc
    have : 10 ^ (19 - l.length) ≤ 10 ^ 1 := Nat.pow_le_pow_right (by decide) (by omega)
    have := h.lt
    omega
  have hlt : k / 10 % 10 < 10 := by omega
  refine ⟨⟨?_, by simp, ?_, ?_⟩, by omega⟩
  · intro b hb
    rcases List.mem_cons.1 hb with h1 | h1
    · rw [h1]; exact isD_of hlt
    · exact h.dig b h1
  · rw [dv_cons, ofNat_dig hlt, List.length_cons, Nat.pow_succ, show 48 + k / 10 % 10 - 48 = k / 10 % 10 by omega]
    have h1 := h.val
    generalize 10 ^ l.length = P at *
    have h2 : k / 10 / 10 * (P * 10) = k / 10 / 10 * 10 * P := by ac_rfl
    have h3 : k / 10 = k / 10 / 10 * 10 + k / 10 % 10 := by omega
    have h4 : k / 10 * P = k / 10 / 10 * 10 * P + k / 10 % 10 * P := by rw [← Nat.add_mul, ← h3]
    omega
  · rw [List.length_cons]
    have h1 := h.lt
    obtain ⟨r, hr⟩ : ∃ r, 19 - l.length = r + 1 := ⟨18 - l.length, by omega⟩
    rw [show 19 - (l.length + 1) = r by omega]
    rw [hr, Nat.pow_succ] at h1
    omega
theorem Dn.fin {n k : Nat} {l : List UInt8} (h : Dn n k l) (hl : l.length ≤ 20) (h9 : k ≤ 9) : Ds n l :=
  ⟨h.dig, h.ne, by have := h.val; rw [show k / 10 = 0 by omega, Nat.zero_mul, Nat.add_zero] at this; exact this, hl⟩
set_option maxRecDepth 100000 in
set_option maxHeartbeats 400000 in
theorem small_c (n : Nat) (w : World) (hn : Hid (n < 10 ^ 18)) :
    Calls Tryd.prog 7 #[.int .i64 n] w fun e w' => ∃ l, e = .returned (.string (B l)) ∧ Ds n l ∧ Below w.heap.size w w' := by
  have hn' : n < 1000000000000000000 := hn.out
  have hcv := one_byte w (48 + n % 10) (by omega)
  have hI : (48 : Int) + (n : Int) % 10 = ((48 + n % 10 : Nat) : Int) := by omega
  have hlt : n % 10 < 10 := by omega
  have hst : Hid (Dg.dv [UInt8.ofNat (48 + n % 10)] + n / 10 * 10 ^ 1 = n) := by
    show _ = _
    rw [dv_cons, ofNat_dig hlt, Dg.dv_nil]
    simp
    omega
  have hdg : Hid (∀ b ∈ [UInt8.ofNat (48 + n % 10)], Dg.isD b = true) := fun b hb => by
    rw [List.mem_singleton] at hb; rw [hb]; exact isD_of hlt
  generalize 48 + n % 10 = d at hcv hI hst hdg
  have hdl : d < 256 := by omega
  go_enter Tryd.func7, Tryd.ntmps7
  go_wp2
  go_loopw [0, 3] (fun sn ss wr => ∃ (k : Nat) (l : List UInt8), k ≤ n ∧ l.length ≤ 19 ∧ sn = .int .i64 k ∧ ss = .string (B l) ∧ Hid (Dn n k l) ∧ Hid (Below w.heap.size w wr)) (fun sn _ _ => (intOf sn).toNat)
  case atStart =>
    refine ⟨n, [UInt8.ofNat d], Nat.le_refl _, by simp, rfl, rfl, ⟨hdg.out, by simp, hst.out, ?_⟩, (Below.refl _ _).alloc (Nat.le_refl _) _⟩
    exact hn.out
  case round =>
    obtain ⟨k, l, hk, hl, rfl, rfl, hd, hb⟩ := hrel
    clear hcv hst hdg hI
    by_cases h9 : 9 < k
    · have h9' : (9 : Int) < (k : Int) := by omega
      have hnx := hd.out.step h9
      obtain ⟨q, hq⟩ : ∃ q : Nat, q = k / 10 := ⟨_, rfl⟩
      have hw : Hid ((k : Int) / 10 = (q : Int)) := (by omega : (k : Int) / 10 = (q : Int))
      rw [← hq] at hnx
      have hqk : q < k := by omega
      have hqn : q ≤ n := by omega
      clear hq
      have hcv := one_byte wr (48 + q % 10) (by omega)
      have hI : (48 : Int) + (q : Int) % 10 = ((48 + q % 10 : Nat) : Int) := by omega
      have hbn : Hid (Below w.heap.size w (wr.alloc (.cells #[.int .u8 ((48 + q % 10 : Nat) : Int)] 5))) := hb.out.alloc hb.out.size _
      have hnH : Hid (Dn n q (UInt8.ofNat (48 + q % 10) :: l)) := hnx.1
      have hl1 : l.length + 1 ≤ 19 := hnx.2
      have hsz : (B l).size = l.length := B_size l
      have hsz1 : (B [UInt8.ofNat (48 + q % 10)]).size = 1 := B_size _
      have hap : Hid (B [UInt8.ofNat (48 + q % 10)] ++ B l = B (UInt8.ofNat (48 + q % 10) :: l)) := B_append _ _
      have hlt : 48 + q % 10 < 256 := by omega
      generalize 48 + q % 10 = d' at hcv hI hnH hbn hsz1 hap hlt
      have hdl : d' < 256 := by omega
      clear hnx hd hb
      go_wp2
      rw [hw.out, hI, hcv]
      clear hw hI
      go_wp2
      go_roundw
      case rel => exact ⟨q, UInt8.ofNat d' :: l, hqn, hl1, rfl, by rw [hap.out], hnH, hbn⟩
      case measure => simp [intOf]; exact hqk
    · have h9' : ¬ ((9 : Int) < (k : Int)) := by omega
      have hfin : Hid (Ds n l) := hd.out.fin (by omega) (by omega)
      have hb2 : Hid (Below w.heap.size w wr) := hb
      go_wp2
      go_ret
      exact ⟨l, rfl, hfin.out, hb2.out⟩
end Go.Proofs.YtoojjefndkdnpabDoor
