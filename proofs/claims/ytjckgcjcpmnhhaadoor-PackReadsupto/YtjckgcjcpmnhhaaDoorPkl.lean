/-
  The statements' own 'lives' (package pack).
-/
import Derived.Test.YtjckgcjcpmnhhaaDoorPke
namespace Go.Proofs.YtjckgcjcpmnhhaaDoor
open Flo Go.RowKit
theorem lv1 : ([] ++ Pk.vi 300 : List Nat) = [172, 2] := by decide +kernel
theorem lv2 : ([172, 2] ++ Pk.lo 8 (bt 4607182418800017408) : List Nat) = [172, 2, 0, 0, 0, 0, 0, 0, 240, 63] := by decide +kernel
theorem lv3 : ([172, 2, 0, 0, 0, 0, 0, 0, 240, 63] ++ (Pk.vi (ByteArray.size ⟨#[97, 98]⟩) ++ sb ⟨#[97, 98]⟩) : List Nat) = [172, 2, 0, 0, 0, 0, 0, 0, 240, 63, 2, 97, 98] := by decide +kernel
def lvs : List Nat := [172, 2, 0, 0, 0, 0, 0, 0, 240, 63, 2, 97, 98]
theorem lv4 : mkS lvs = ⟨#[172, 2, 0, 0, 0, 0, 0, 0, 240, 63, 2, 97, 98]⟩ := by rfl
theorem lv5 : Pk.rv 0 0 (lvs.drop 0) = .ok (300, 2) := by rfl
theorem lv6 : rfl_ lvs 2 = .ok (4607182418800017408, 8) := by
  have e : nf lvs 2 8 = 4607182418800017408 := by decide +kernel
  have e2 : bt 4607182418800017408 = 4607182418800017408 := by decide +kernel
  unfold rfl_
  rw [e, e2, if_neg (by decide), if_pos rfl]
theorem lv7 : rtx 2 lvs 10 = .ok ([97, 98], 3) := by
  have h : upr 2 (Pk.rv 0 0 (lvs.drop 10)) = .ok (2, 1) := by rfl
  rw [rtx_ok h (by decide)]; rfl
theorem lv8 : mkS [97, 98] = ⟨#[97, 98]⟩ := by rfl
theorem lv9 : ∀ b ∈ lvs, b < 256 := by decide
theorem fl_one : (FloatKind.f64.format.order 4607182418800017408 4607182418800017408 == some Ordering.eq) = true := by decide +kernel
set_option maxRecDepth 100000 in
set_option maxHeartbeats 4000000 in
theorem plives_c (w : World) (al : List Addr) (he : E5 w al) :
    Calls Tryd.prog 7 #[] w fun e w' => e = .returned (.bool true) ∧ Below w.heap.size w w' := by
  have h5 : Hid (5 ≤ w.heap.size) := by
    have h0 := cell_lt he.short; have h1 := cell_lt he.varint; have h2 := cell_lt he.limit; have h3 := cell_lt he.tail; have h4 := cell_lt he.number
    show _ ≤ _
    simp only at h0 h1 h2 h3 h4
    omega
  have heH : Hid (E5 w al) := he
  clear he
  go_enter Tryd.func7, Tryd.ntmps7
  go_wp2_with fail
  refine (wnew_c w (fun k => w.heap.size ≤ k) (Nat.le_refl _)).mono ?_
  rintro e w1 ⟨rfl, h1, hb1, _⟩
  have hW1 : Hid (Wr (fun k => w.heap.size ≤ k) w1 w.heap.size []) := h1
  have hB1 : Hid (Below w.heap.size w w1) := hb1
  clear h1 hb1
  obtain ⟨g, hg⟩ : ∃ g, w.heap.size = g := ⟨_, rfl⟩
  have hgH : Hid (w.heap.size = g) := hg
  rw [hg] at hW1 hB1 h5 ⊢
  clear hg
  go_wp2_with fail
  refine (wuint_c (fun k => g ≤ k) g [] 300 w1 hW1.out (fun k hk => by have := hB1.out.size; have := hgH.out; show g ≤ k; omega) (by decide) (by decide)).mono ?_
  rintro e w2 ⟨rfl, h1, h2⟩
  rw [lv1] at h1
  have hW2 : Hid (Wr (fun k => g ≤ k) w2 g [172, 2]) := h1
  have hB2 : Hid (Below g w w2) := h2.below hB1.out (by have := hB1.out.size; have := hgH.out; omega) (fun k _ hk => hk)
  clear h1 h2 hW1 hB1
  go_wp2_with fail
  refine (wfloat_c (fun k => g ≤ k) g [172, 2] 4607182418800017408 w2 hW2.out (fun k hk => by have := hB2.out.size; have := hgH.out; show g ≤ k; omega) (by decide) (by decide)).mono ?_
  rintro e w3 ⟨rfl, h1, h2⟩
  rw [lv2] at h1
  have hW3 : Hid (Wr (fun k => g ≤ k) w3 g [172, 2, 0, 0, 0, 0, 0, 0, 240, 63]) := h1
  have hB3 : Hid (Below g w w3) := h2.below hB2.out (by have := hB2.out.size; have := hgH.out; omega) (fun k _ hk => hk)
  clear h1 h2 hW2 hB2
  go_wp2_with fail
  refine (wtext_c (fun k => g ≤ k) g _ ⟨#[97, 98]⟩ w3 hW3.out (fun k hk => by have := hB3.out.size; have := hgH.out; show g ≤ k; omega) (by decide)).mono ?_
  rintro e w4 ⟨rfl, h1, h2⟩
  rw [lv3] at h1
  have hW4 : Hid (Wr (fun k => g ≤ k) w4 g lvs) := h1
  have hB4 : Hid (Below g w w4) := h2.below hB3.out (by have := hB3.out.size; have := hgH.out; omega) (fun k _ hk => hk)
  clear h1 h2 hW3 hB3
  go_wp2_with fail
  refine (wout_c (fun k => g ≤ k) g lvs w4 hW4.out (by decide)).mono ?_
  rintro e w5 ⟨v5, rfl, h1⟩
  have hcv : (convert 26 9 v5).run Tryd.prog w5 = .ok (.string ⟨#[172, 2, 0, 0, 0, 0, 0, 0, 240, 63, 2, 97, 98]⟩) w5 := by rw [← lv4]; exact conv_src h1.own.src lv9
  have hB5 : Hid (Below g w w5) := hB4.out.trans (h1.below.mono (by have := hB4.out.size; have := hgH.out; omega))
  have hW5 : Hid (Wr (fun k => g ≤ k) w5 g lvs) := hW4.out.under (Fr.of_below (S := fun _ => False) h1.below fun k hk hk2 => by omega) fun _ _ h => h.elim
  clear h1 hW4 hB4
  go_wp2_with fail
  refine (wlen_c (fun k => g ≤ k) g lvs w5 hW5.out).mono ?_
  rintro e w' ⟨rfl, rfl⟩
  have hl13 : ((lvs.length : Nat) : Int) = 13 := rfl
  rw [hl13]
  clear hcv hl13
  go_wp2_with fail
  refine (wout_c (fun k => g ≤ k) g lvs w5 hW5.out (by decide)).mono ?_
  rintro e w6 ⟨v6, rfl, h1⟩
  have hB6 : Hid (Below g w w6) := hB5.out.trans (h1.below.mono (by have := hB5.out.size; have := hgH.out; omega))
  have hS6 : Hid (SrcB w6 v6 lvs) := h1.own.src
  clear h1 hB5 hW5
  go_wp2_with fail
  refine (rread_c v6 lvs w6 hS6.out (by decide) lv9).mono ?_
  rintro e w7 ⟨r, rfl, hr, h1, h2⟩
  have hB7 : Hid (Below g w w7) := hB6.out.trans (h2.mono (by have := hB6.out.size; have := hgH.out; omega))
  have hR7 : Hid (Rr (fun k => w6.heap.size ≤ k ∧ k < w7.heap.size) w7 r lvs 0) := h1
  have hr5 : Hid (¬ r < 5 ∧ g ≤ r) := by have := hB6.out.size; have := hgH.out; have := h5.out; exact ⟨by omega, by omega⟩
  have hE7 : Hid (E5 w7 al) := heH.out.below (by rw [hgH.out]; exact hB7.out)
  clear h1 h2 hr hB6 hS6
  go_wp2_with fail
  refine (ruint_c _ r 0 lvs al w7 hR7.out hE7.out).mono ?_
  rw [lv5]
  rintro e w8 ⟨rfl, h1, h2⟩
  have hR8 : Hid (Rr (fun k => w6.heap.size ≤ k ∧ k < w7.heap.size) w8 r lvs 2) := h1
  have hE8 : Hid (E5 w8 al) := hE7.out.fr h2 hr5.out.1
  have hB8 : Hid (Below g w w8) := h2.below hB7.out (by have := hB7.out.size; have := hgH.out; omega) (fun k _ hk => by have := hr5.out.2; have hk2 : k = r := hk; omega)
  have u1 : Pk.ux (Except.ok (300, 2)) = 300 := rfl
  have u2 : ue al (Except.ok (300, 2) : Except Nat (Nat × Nat)) = .nilIface := rfl
  rw [u1, u2]
  clear h1 h2 hR7 hE7 hB7 u1 u2
  go_wp2_with fail
  refine (rfloat_c _ r 2 lvs al w8 hR8.out hE8.out).mono ?_
  rw [lv6]
  rintro e w9 ⟨rfl, h1, h2⟩
  have hR9 : Hid (Rr (fun k => w6.heap.size ≤ k ∧ k < w7.heap.size) w9 r lvs 10) := h1
  have hE9 : Hid (E5 w9 al) := hE8.out.fr h2 hr5.out.1
  have hB9 : Hid (Below g w w9) := h2.below hB8.out (by have := hB8.out.size; have := hgH.out; omega) (fun k _ hk => by have := hr5.out.2; have hk2 : k = r := hk; omega)
  have u1 : Pk.ux (Except.ok (4607182418800017408, 8)) = 4607182418800017408 := rfl
  have u2 : ue al (Except.ok (4607182418800017408, 8) : Except Nat (Nat × Nat)) = .nilIface := rfl
  rw [u1, u2]
  clear h1 h2 hR8 hE8 hB8 u1 u2
  go_wp2_with fail
  refine (rtext_c _ r 10 2 lvs al w9 hR9.out hE9.out hr5.out.1 (by decide)).mono ?_
  rw [lv7]
  rintro e w10 ⟨rfl, h1, h2⟩
  have hR10 : Hid (Rr (fun k => w6.heap.size ≤ k ∧ k < w7.heap.size) w10 r lvs 13) := h1
  have hE10 : Hid (E5 w10 al) := hE9.out.fr h2 hr5.out.1
  have hB10 : Hid (Below g w w10) := h2.below hB9.out (by have := hB9.out.size; have := hgH.out; omega) (fun k _ hk => by have := hr5.out.2; have hk2 : k = r := hk; omega)
  have u1 : mkS (lx (Except.ok ([97, 98], 3))) = ⟨#[97, 98]⟩ := rfl
  have u2 : ue al (Except.ok ([97, 98], 3) : Except Nat (List Nat × Nat)) = .nilIface := rfl
  rw [u1, u2]
  have hfo := fl_one
  clear h1 h2 hR9 hE9 hB9 u1 u2
  go_wp2_with fail
  refine (rdone_c _ r 13 lvs al w10 hR10.out hE10.out).mono ?_
  rintro e w11 ⟨rfl, h1⟩
  have u1 : dnv al 13 lvs.length = .nilIface := rfl
  rw [u1]
  have hB11 : Hid (Below g w w11) := hB10.out.trans (h1.below _)
  clear h1 hB10 u1
  go_wp2
  go_ret
  exact ⟨rfl, by rw [hgH.out]; exact hB11.out⟩
end Go.Proofs.YtjckgcjcpmnhhaaDoor
