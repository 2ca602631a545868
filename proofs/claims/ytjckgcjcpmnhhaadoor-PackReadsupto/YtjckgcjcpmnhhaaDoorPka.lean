/-
  Package pack: a Reader's Complex.
-/
import Derived.Test.YtjckgcjcpmnhhaaDoorPk9
namespace Go.Proofs.YtjckgcjcpmnhhaaDoor
open Flo Go.RowKit
theorem bne_f {x : Nat} (h : bt x = x) : ((bt x : Int) != (x : Int)) = false := by rw [h]; simp
theorem bne_t {x : Nat} (h : ¬ bt x = x) : ((bt x : Int) != (x : Int)) = true := by
  have : (bt x : Int) ≠ (x : Int) := by omega
  simpa using this
set_option maxRecDepth 100000 in
set_option maxHeartbeats 4000000 in
theorem rcomplex_c (R : Nat → Prop) (g k : Nat) (bs : List Nat) (al : List Addr) (w : World) (h : Rr R w g bs k) (he : E5 w al) :
    Calls Tryd.prog 56 #[.pointer (some ⟨g, 0, none⟩)] w fun e w' => e = .returned (.tuple #[cxv (rcx bs k), ue al (rcx bs k)]) ∧ Rr R w' g bs (k + Pk.ud (rcx bs k)) ∧ Fr (fun k => k = g) w w' := by
  have hH : Hid (Rr R w g bs k) := h
  have heH : Hid (E5 w al) := he
  have hle := h.le
  have hbig := h.big
  have hkb : k ≤ 140737488355328 := by omega
  clear h he
  go_enter Tryd.func56, Tryd.ntmps56
  go_wp2_with fail
  refine (rleft_c R g k bs w hH.out).mono ?_
  rintro e w1 ⟨m, rfl, hm, hq⟩
  have hqH : Hid (Qt w w1) := hq
  have hs := (heH.out.below (hq.below _)).short
  clear hq
  by_cases hk : bs.length - k < 16
  · have hfin : Hid (rcx bs k = .error 0) := if_pos hk
    have h1 : (m : Int) < 16 := by have := hm.out; omega
    clear hm hk hle hbig hkb
    go_wp2
    go_region
    go_wp2
    go_ret2
    rw [hfin.out]
    exact ⟨rfl, hH.out.qt (hqH.out.trans (Qt.drew _)), (hqH.out.fr _).drew⟩
  · have h1 : decide ((m : Int) < 16) = false := decide_eq_false (by have := hm.out; omega)
    have h2 : ¬ m < 16 := by have := hm.out; omega
    have hk8 : Hid (k + 16 ≤ bs.length) := by show _ ≤ _; omega
    have hif : Hid (rcx bs k = if bt (nf bs k 8) = nf bs k 8 ∧ bt (nf bs (k + 8) 8) = nf bs (k + 8) 8 then .ok ((nf bs k 8, nf bs (k + 8) 8), 16) else .error 12) := if_neg hk
    have hxl : Hid (nf bs k 8 < 18446744073709551616) := nf_8 hH.out.byt (by have := hk8.out; omega)
    have hyl : Hid (nf bs (k + 8) 8 < 18446744073709551616) := nf_8 hH.out.byt (by have := hk8.out; omega)
    have hfx : Hid (∀ w1, Qt w w1 → Calls Tryd.prog 72 #[.pointer (some ⟨g, 0, none⟩), .int .i64 0, .int .i64 8] w1 fun e w' => e = .returned (.int .u64 (nf bs k 8 : Nat)) ∧ Qt w1 w') := fun w1 hq => by
      have := rfixed_c R g k 0 8 bs w1 (hH.out.qt hq) (by decide) (by decide) (by have := hk8.out; omega)
      rw [Nat.add_zero] at this; exact this
    have hfy : Hid (∀ w1, Qt w w1 → Calls Tryd.prog 72 #[.pointer (some ⟨g, 0, none⟩), .int .i64 8, .int .i64 8] w1 fun e w' => e = .returned (.int .u64 (nf bs (k + 8) 8 : Nat)) ∧ Qt w1 w') := fun w1 hq => rfixed_c R g k 8 8 bs w1 (hH.out.qt hq) (by decide) (by decide) (by have := hk8.out; omega)
    clear hm hk hs hle hbig
    generalize nf bs k 8 = x at hif hxl hfx
    generalize nf bs (k + 8) 8 = y at hif hyl hfy
    go_wp2_with fail
    refine (hfx.out w1 hqH.out).mono ?_
    rintro e w2 ⟨rfl, hq2⟩
    have hq2H : Hid (Qt w w2) := hqH.out.trans hq2
    clear hq2
    go_wp2_with fail
    refine (hfy.out w2 hq2H.out).mono ?_
    rintro e w3 ⟨rfl, hq3⟩
    have hq3H : Hid (Qt w w3) := hq2H.out.trans hq3
    have hnn := (heH.out.below (hq3H.out.below _)).number
    obtain ⟨v, hv⟩ := hH.out.qt hq3H.out
    have hc1 := hv.c1
    have hz := hv.free
    have hmv : Hid (RrV R (w3.setCell ⟨g, 1, none⟩ (.int .i64 ((k + 16 : Nat) : Int))) g v bs (k + 16)) := hv.move hk8.out
    have hcast : Hid ((k : Int) + 16 = ((k + 16 : Nat) : Int)) := (by omega : (k : Int) + 16 = ((k + 16 : Nat) : Int))
    clear hq3 hv hfx hfy
    go_wp2_with fail
    refine (strange_c x w3 hxl.out).mono ?_
    rintro e w' ⟨rfl, rfl⟩
    by_cases hb : bt x = x
    · rw [bne_f hb]
      have hbH : Hid (bt x = x) := hb
      clear hb
      go_wp2_with fail
      refine (strange_c y w3 hyl.out).mono ?_
      rintro e w' ⟨rfl, rfl⟩
      by_cases hc : bt y = y
      · rw [bne_f hc]
        have hfin : Hid (rcx bs k = .ok ((x, y), 16)) := by rw [hif.out, if_pos ⟨hbH.out, hc⟩]; rfl
        clear hc hbH hif hxl hyl
        go_wp2_with fail
        refine (of_c (x : Int) _).mono ?_
        rintro e w' ⟨rfl, rfl⟩
        rw [Int.toNat_natCast]
        go_wp2_with fail
        refine (of_c (y : Int) _).mono ?_
        rintro e w' ⟨rfl, rfl⟩
        rw [Int.toNat_natCast]
        go_wp2
        go_ret2
        rw [hfin.out]
        refine ⟨rfl, ⟨v, ?_⟩, ?_⟩
        · rw [hcast.out]; exact hmv.out
        · exact Fr.setCell (S := fun k => k = g) (p := ⟨g, 1, none⟩) (hq3H.out.fr _) rfl _
      · rw [bne_t hc]
        have hfin : Hid (rcx bs k = .error 12) := by rw [hif.out, if_neg (fun hh => hc hh.2)]; rfl
        clear hc hbH hif hxl hyl
        go_wp2
        go_region
        go_wp2
        go_ret2
        rw [hfin.out]
        exact ⟨rfl, hH.out.qt (hq3H.out.trans (Qt.drew _)), (hq3H.out.fr _).drew⟩
    · rw [bne_t hb]
      have hfin : Hid (rcx bs k = .error 12) := by rw [hif.out, if_neg (fun hh => hb hh.1)]; rfl
      clear hb hif hxl hyl
      go_wp2
      go_region
      go_wp2
      go_ret2
      rw [hfin.out]
      exact ⟨rfl, hH.out.qt (hq3H.out.trans (Qt.drew _)), (hq3H.out.fr _).drew⟩
end Go.Proofs.YtjckgcjcpmnhhaaDoor
