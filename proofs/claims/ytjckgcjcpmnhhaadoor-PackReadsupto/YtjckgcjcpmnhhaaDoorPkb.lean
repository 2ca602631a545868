/-
  Package pack: Narrow of a Writer and of a Reader.
-/
import Derived.Test.YtjckgcjcpmnhhaaDoorPka
namespace Go.Proofs.YtjckgcjcpmnhhaaDoor
open Flo Go.RowKit
theorem run_f32bits (b : Nat) (w : World) : (callFunc 93 #[.float .f32 b]).run Tryd.prog w = .ok (.value (.int .u32 b)) w := by kernel_rfl
theorem run_f32of (b : Int) (w : World) : (callFunc 80 #[.int .u32 b]).run Tryd.prog w = .ok (.value (.float .f32 b.toNat)) w := by kernel_rfl
/-- the bits of a float32; those of every NaN are one -/
def bt32 (n : Nat) : Nat := if 2139095040 < n % 2147483648 then 2143289344 else n
theorem bt32_lt {n : Nat} (h : n < 4294967296) : bt32 n < 4294967296 := by unfold bt32; split <;> omega
theorem bt32_bt (n : Nat) : bt32 (bt32 n) = bt32 n := by
  by_cases h : 2139095040 < n % 2147483648
  · have e : bt32 n = 2143289344 := if_pos h
    rw [e]; decide
  · have e : bt32 n = n := if_neg h
    rw [e, e]
theorem sw_s : Ieee.single.signWeight = 2147483648 := by decide
theorem bi_s : Ieee.single.binade = 8388608 := by decide
theorem ir_s : Ieee.single.infRung = 2139095040 := by decide
theorem dself : ∀ d : Ieee.Datum, (∀ s t, d ≠ .nan s t) → d.order d = some .eq
  | .nan s t, h => absurd rfl (h s t)
  | .infinity s, _ => by cases s <;> rfl
  | .number s m p, _ => by cases s <;> simp [Ieee.Datum.order]
theorem dnan (s : Bool) (t : Nat) (d : Ieee.Datum) : (Ieee.Datum.nan s t).order d = none := by cases d <;> rfl
theorem ord32_nan {n : Nat} (h : 2139095040 < n % 2147483648) : Ieee.single.order n n = none := by
  unfold Ieee.Format.order
  have : ∃ s t, Ieee.single.read n = .nan s t := by
    unfold Ieee.Format.read
    simp only [sw_s, bi_s, ir_s]
    rw [if_neg (by omega), if_neg (by omega), if_neg (by omega)]
    exact ⟨_, _, rfl⟩
  obtain ⟨s, t, e⟩ := this
  rw [e]; exact dnan s t _
theorem ord32_num {n : Nat} (h : ¬ 2139095040 < n % 2147483648) : Ieee.single.order n n = some .eq := by
  unfold Ieee.Format.order
  refine dself _ fun s t => ?_
  unfold Ieee.Format.read
  simp only [sw_s, bi_s, ir_s]
  by_cases h1 : n % 2147483648 < 8388608
  · rw [if_pos h1]; simp
  · rw [if_neg h1]
    by_cases h2 : n % 2147483648 < 2139095040
    · rw [if_pos h2]; simp
    · rw [if_neg h2, if_pos (by omega)]; simp
set_option maxHeartbeats 1000000 in
theorem half_c (n : Nat) (w : World) :
    Calls Tryd.prog 79 #[.float .f32 n] w fun e w' => e = .returned (.int .u32 (bt32 n : Nat)) ∧ w = w' := by
  have h2 := run_f32bits
  by_cases hn : 2139095040 < n % 2147483648
  · have ho : (FloatKind.f32.format.order n n != some Ordering.eq) = true := by
      show (Ieee.single.order n n != some Ordering.eq) = true
      rw [ord32_nan hn]; rfl
    have hb : Hid (bt32 n = 2143289344) := if_pos hn
    clear hn
    go_enter Tryd.func79, Tryd.ntmps79
    go_wp2
    go_ret
    exact ⟨by rw [hb.out]; rfl, rfl⟩
  · have ho : (FloatKind.f32.format.order n n != some Ordering.eq) = false := by
      show (Ieee.single.order n n != some Ordering.eq) = false
      rw [ord32_num hn]; rfl
    have hb : Hid (bt32 n = n) := if_neg hn
    clear hn
    go_enter Tryd.func79, Tryd.ntmps79
    go_wp2
    go_ret
    exact ⟨by rw [hb.out]; rfl, rfl⟩
theorem andn31 (n : Nat) (h : n < 4294967296) : bits .andNot .u32 (n : Int) 2147483648 = ((n % 2147483648 : Nat) : Int) := by
  rw [show (2147483648 : Int) = ((2147483648 : Nat) : Int) from rfl, u32_andNot_nat _ _ h (by decide)]
  have e : (4294967295 - 2147483648 : Nat) = 2 ^ 31 - 1 := by decide
  first
    | (rw [e, Nat.and_two_pow_sub_one_eq_mod])
    | (congr 1; exact Nat.and_two_pow_sub_one_eq_mod n 31)
theorem bnh_f {x : Nat} (h : bt32 x = x) : ((bt32 x : Int) != (x : Int)) = false := by rw [h]; simp
theorem bnh_t {x : Nat} (h : ¬ bt32 x = x) : ((bt32 x : Int) != (x : Int)) = true := by
  have : (bt32 x : Int) ≠ (x : Int) := by omega
  simpa using this
set_option maxHeartbeats 1000000 in
theorem sth_c (n : Nat) (w : World) (h : n < 4294967296) :
    Calls Tryd.prog 87 #[.int .u32 n] w fun e w' => e = .returned (.bool ((bt32 n : Int) != (n : Int))) ∧ w = w' := by
  have ha := andn31 n h
  obtain ⟨m, hm⟩ : ∃ m, n % 2147483648 = m := ⟨_, rfl⟩
  rw [hm] at ha
  have hmH : Hid (n % 2147483648 = m) := hm
  clear hm
  by_cases hn : 2139095040 < m
  · have hn' : (2139095040 : Int) < (m : Int) := by omega
    have hb : Hid (bt32 n = 2143289344) := if_pos (by rw [hmH.out]; exact hn)
    by_cases hq : n = 2143289344
    · have hq' : ((n : Int) != 2143289344) = false := by rw [hq]; decide
      have hqe : ((n : Int) == 2143289344) = true := by rw [hq]; decide
      have hfin : Hid (false = ((bt32 n : Int) != (n : Int))) := (bnh_f (by rw [hb.out, hq])).symm
      clear hq hn hb
      go_enter Tryd.func87, Tryd.ntmps87
      go_wp2
      go_ret
      exact ⟨ret_bool hfin.out, rfl⟩
    · have hqn : (n : Int) ≠ 2143289344 := by omega
      have hq' : ((n : Int) != 2143289344) = true := by simpa using hqn
      have hqe : ((n : Int) == 2143289344) = false := beq_eq_false_iff_ne.2 hqn
      have hfin : Hid (true = ((bt32 n : Int) != (n : Int))) := (bnh_t (by rw [hb.out]; omega)).symm
      clear hq hn hb hqn
      go_enter Tryd.func87, Tryd.ntmps87
      go_wp2
      go_ret
      exact ⟨ret_bool hfin.out, rfl⟩
  · have hn' : decide ((2139095040 : Int) < (m : Int)) = false := decide_eq_false (by omega)
    have hn2 : ¬ 2139095040 < m := hn
    have hfin : Hid (false = ((bt32 n : Int) != (n : Int))) := (bnh_f (if_neg (by rw [hmH.out]; exact hn))).symm
    go_enter Tryd.func87, Tryd.ntmps87
    go_wp2
    go_ret
    exact ⟨ret_bool hfin.out, rfl⟩
set_option maxHeartbeats 1000000 in
theorem wnarrow_c (F : Nat → Prop) (g : Nat) (ys : List Nat) (a b : Nat) (w : World) (h : Wr F w g ys) (hF : ∀ k, w.heap.size ≤ k → F k) (ha : a < 4294967296) (hb : b < 4294967296) (hl : ys.length ≤ 140737488349000) :
    Calls Tryd.prog 40 #[.pointer (some ⟨g, 0, none⟩), .complex .f32 a b] w fun e w' => e = .returned (.tuple #[]) ∧ Wr F w' g (ys ++ (Pk.lo 4 (bt32 a) ++ Pk.lo 4 (bt32 b))) ∧ Fr F w w' := by
  have hH : Hid (Wr F w g ys) := h
  have hFH : Hid (∀ k, w.heap.size ≤ k → F k) := hF
  have ha2 := bt32_lt ha
  have hb2 := bt32_lt hb
  clear h hF
  go_enter Tryd.func40, Tryd.ntmps40
  go_wp2_with fail
  refine (half_c a w).mono ?_
  rintro e w' ⟨rfl, rfl⟩
  go_wp2_with fail
  refine (wfixed_c F g ys (bt32 a) 4 w hH.out hFH.out (by omega) (by decide) (by omega)).mono ?_
  rintro e w1 ⟨rfl, h1, h2⟩
  have h1H : Hid (Wr F w1 g (ys ++ Pk.lo 4 (bt32 a))) := h1
  have h2H : Hid (Fr F w w1) := h2
  clear h1 h2
  go_wp2_with fail
  refine (half_c b w1).mono ?_
  rintro e w' ⟨rfl, rfl⟩
  go_wp2_with fail
  refine (wfixed_c F g _ (bt32 b) 4 w1 h1H.out (fun k hk => hFH.out k (Nat.le_trans h2H.out.size hk)) (by omega) (by decide) (by rw [List.length_append, Pk.lo_len]; omega)).mono ?_
  rintro e w2 ⟨rfl, h3, h4⟩
  have h3H : Hid (Wr F w2 g (ys ++ (Pk.lo 4 (bt32 a) ++ Pk.lo 4 (bt32 b)))) := by rw [← List.append_assoc]; exact h3
  have h4H : Hid (Fr F w w2) := h2H.out.then h4
  clear h3 h4
  go_wp2
  go_end0
  exact ⟨rfl, h3H.out, h4H.out⟩
theorem nf_4 {bs : List Nat} (hb : ∀ b ∈ bs, b < 256) {p : Nat} (h : p + 4 ≤ bs.length) : nf bs p 4 < 4294967296 := nf_lt hb h
/-- a complex64 that is read -/
def rnw (bs : List Nat) (k : Nat) : Except Nat ((Nat × Nat) × Nat) := if bs.length - k < 8 then .error 0 else if bt32 (nf bs k 4) = nf bs k 4 ∧ bt32 (nf bs (k + 4) 4) = nf bs (k + 4) 4 then .ok ((nf bs k 4, nf bs (k + 4) 4), 8) else .error 12
/-- its value -/
def nwv (r : Except Nat ((Nat × Nat) × Nat)) : Value := match r with | .ok ((a, b), _) => .complex .f32 a b | .error _ => .complex .f32 0 0
theorem rnw_bd {bs : List Nat} {k : Nat} (hk : k ≤ bs.length) : k + Pk.ud (rnw bs k) ≤ bs.length := by
  unfold rnw
  split
  · exact hk
  · split
    · show k + 8 ≤ _; omega
    · exact hk
set_option maxRecDepth 100000 in
set_option maxHeartbeats 4000000 in
theorem rnarrow_c (R : Nat → Prop) (g k : Nat) (bs : List Nat) (al : List Addr) (w : World) (h : Rr R w g bs k) (he : E5 w al) :
    Calls Tryd.prog 59 #[.pointer (some ⟨g, 0, none⟩)] w fun e w' => e = .returned (.tuple #[nwv (rnw bs k), ue al (rnw bs k)]) ∧ Rr R w' g bs (k + Pk.ud (rnw bs k)) ∧ Fr (fun k => k = g) w w' := by
  have hH : Hid (Rr R w g bs k) := h
  have heH : Hid (E5 w al) := he
  have hle := h.le
  have hbig := h.big
  have hkb : k ≤ 140737488355328 := by omega
  have hof := run_f32of
  clear h he
  go_enter Tryd.func59, Tryd.ntmps59
  go_wp2_with fail
  refine (rleft_c R g k bs w hH.out).mono ?_
  rintro e w1 ⟨m, rfl, hm, hq⟩
  have hqH : Hid (Qt w w1) := hq
  have hs := (heH.out.below (hq.below _)).short
  clear hq
  by_cases hk : bs.length - k < 8
  · have hfin : Hid (rnw bs k = .error 0) := if_pos hk
    have h1 : (m : Int) < 8 := by have := hm.out; omega
    clear hm hk hle hbig hkb
    go_wp2
    go_region
    go_wp2
    go_ret2
    rw [hfin.out]
    exact ⟨rfl, hH.out.qt (hqH.out.trans (Qt.drew _)), (hqH.out.fr _).drew⟩
  · have h1 : decide ((m : Int) < 8) = false := decide_eq_false (by have := hm.out; omega)
    have h2 : ¬ m < 8 := by have := hm.out; omega
    have hk8 : Hid (k + 8 ≤ bs.length) := by show _ ≤ _; omega
    have hif : Hid (rnw bs k = if bt32 (nf bs k 4) = nf bs k 4 ∧ bt32 (nf bs (k + 4) 4) = nf bs (k + 4) 4 then .ok ((nf bs k 4, nf bs (k + 4) 4), 8) else .error 12) := if_neg hk
    have hxl : Hid (nf bs k 4 < 4294967296) := nf_4 hH.out.byt (by have := hk8.out; omega)
    have hyl : Hid (nf bs (k + 4) 4 < 4294967296) := nf_4 hH.out.byt (by have := hk8.out; omega)
    have hfx : Hid (∀ w1, Qt w w1 → Calls Tryd.prog 72 #[.pointer (some ⟨g, 0, none⟩), .int .i64 0, .int .i64 4] w1 fun e w' => e = .returned (.int .u64 (nf bs k 4 : Nat)) ∧ Qt w1 w') := fun w1 hq => by
      have := rfixed_c R g k 0 4 bs w1 (hH.out.qt hq) (by decide) (by decide) (by have := hk8.out; omega)
      rw [Nat.add_zero] at this; exact this
    have hfy : Hid (∀ w1, Qt w w1 → Calls Tryd.prog 72 #[.pointer (some ⟨g, 0, none⟩), .int .i64 4, .int .i64 4] w1 fun e w' => e = .returned (.int .u64 (nf bs (k + 4) 4 : Nat)) ∧ Qt w1 w') := fun w1 hq => rfixed_c R g k 4 4 bs w1 (hH.out.qt hq) (by decide) (by decide) (by have := hk8.out; omega)
    clear hm hk hs hle hbig
    generalize nf bs k 4 = x at hif hxl hfx
    generalize nf bs (k + 4) 4 = y at hif hyl hfy
    have hwx : IntKind.u32.wrap (x : Int) = (x : Int) := by have := hxl.out; rw [IntKind.wrap_u32]; omega
    have hwy : IntKind.u32.wrap (y : Int) = (y : Int) := by have := hyl.out; rw [IntKind.wrap_u32]; omega
    have hmx : (x : Int) % 4294967296 = (x : Int) := by have := hxl.out; omega
    have hmy : (y : Int) % 4294967296 = (y : Int) := by have := hyl.out; omega
    go_wp2_with fail
    refine (hfx.out w1 hqH.out).mono ?_
    rintro e w2 ⟨rfl, hq2⟩
    have hq2H : Hid (Qt w w2) := hqH.out.trans hq2
    clear hq2
    go_wp2_with fail
    refine (hfy.out w2 hq2H.out).mono ?_
    rintro e w3 ⟨rfl, hq3⟩
    have hq3H : Hid (Qt w w3) := hq2H.out.trans hq3
    have hnn := (heH.out.below (hq3H.out.below _)).number
    obtain ⟨v, hv⟩ := hH.out.qt hq3H.out
    have hc1 := hv.c1
    have hz := hv.free
    have hmv : Hid (RrV R (w3.setCell ⟨g, 1, none⟩ (.int .i64 ((k + 8 : Nat) : Int))) g v bs (k + 8)) := hv.move hk8.out
    have hcast : Hid ((k : Int) + 8 = ((k + 8 : Nat) : Int)) := (by omega : (k : Int) + 8 = ((k + 8 : Nat) : Int))
    clear hq3 hv hfx hfy
    go_wp2_with fail
    refine (sth_c x w3 hxl.out).mono ?_
    rintro e w' ⟨rfl, rfl⟩
    by_cases hb : bt32 x = x
    · rw [bnh_f hb]
      have hbH : Hid (bt32 x = x) := hb
      clear hb
      go_wp2_with fail
      refine (sth_c y w3 hyl.out).mono ?_
      rintro e w' ⟨rfl, rfl⟩
      by_cases hc : bt32 y = y
      · rw [bnh_f hc]
        have hfin : Hid (rnw bs k = .ok ((x, y), 8)) := by rw [hif.out, if_pos ⟨hbH.out, hc⟩]; rfl
        clear hc hbH hif hxl hyl
        go_wp2
        go_ret2
        rw [hfin.out]
        refine ⟨rfl, ⟨v, ?_⟩, ?_⟩
        · rw [hcast.out]; exact hmv.out
        · exact Fr.setCell (S := fun k => k = g) (p := ⟨g, 1, none⟩) (hq3H.out.fr _) rfl _
      · rw [bnh_t hc]
        have hfin : Hid (rnw bs k = .error 12) := by rw [hif.out, if_neg (fun hh => hc hh.2)]; rfl
        clear hc hbH hif hxl hyl
        go_wp2
        go_region
        go_wp2
        go_ret2
        rw [hfin.out]
        exact ⟨rfl, hH.out.qt (hq3H.out.trans (Qt.drew _)), (hq3H.out.fr _).drew⟩
    · rw [bnh_t hb]
      have hfin : Hid (rnw bs k = .error 12) := by rw [hif.out, if_neg (fun hh => hb hh.1)]; rfl
      clear hb hif hxl hyl
      go_wp2
      go_region
      go_wp2
      go_ret2
      rw [hfin.out]
      exact ⟨rfl, hH.out.qt (hq3H.out.trans (Qt.drew _)), (hq3H.out.fr _).drew⟩
end Go.Proofs.YtjckgcjcpmnhhaaDoor
