/-
  timbreref04, what is read: number.
-/
import Derived.Test.YtmlfichdfeblpaaDoorQkg
import Derived.Test.YtmlfichdfeblpaaDoorQk7
import Derived.Deep.QuietTactic
import Derived.BigQuiet
import Derived.WalkSmall
namespace Go.Proofs.YtmlfichdfeblpaaDoor
open Flo Go.RowKit
/-- the error's number -/
def en {α : Type} (r : Except Nat α) : Nat := match r with | .ok _ => 0 | .error c => c + 1
theorem rowI {w : World} {ab : Option Addr} {nb cb : Nat} {bs : List Nat} (h : InB w (.slice ab nb cb) bs) (hne : bs ≠ []) : ∃ q o, ab = some ⟨q, o, none⟩ ∧ nb ≤ cb ∧ ∀ i, i < bs.length → w.cell? ⟨q, o + i, none⟩ = some (.int .u8 (bs.getD i 0 : Nat)) := by
  obtain ⟨q, o, cap, he, hc, _, hcells⟩ := h.some_ hne
  injection he with e1 e2 e3
  subst e1; subst e2; subst e3
  exact ⟨q, o, rfl, hc, hcells⟩
theorem rowB {w : World} {ab : Option Addr} {nb cb : Nat} {bs : List Nat} (h : OwB w (.slice ab nb cb) bs) (hne : bs ≠ []) : ∃ q, ab = some ⟨q, 0, none⟩ ∧ nb ≤ cb ∧ ∀ i, i < bs.length → w.cell? ⟨q, i, none⟩ = some (.int .u8 (bs.getD i 0 : Nat)) := by
  have hh : w.ownsRow 0 5 1 (.slice ab nb cb) bs.length (bc bs) := h
  rcases hh.2 with ⟨_, h1⟩ | ⟨q, cap, cur, he, hbg, hg, hnc, hcm, hcs, htake⟩
  · exact absurd (List.eq_nil_of_length_eq_zero h1) hne
  · injection he with e1 e2 e3
    subst e1; subst e2; subst e3
    refine ⟨q, rfl, hnc, fun i hi => ?_⟩
    rw [hh.cellAt i (by omega)]
    simp [bc, List.getD, hi]
theorem adsh {X b i : Nat} (hX : X < 128 ^ i) (hi : i ≤ 9) (hb : i = 9 → b ≤ 1) : b % 128 * 128 ^ i < 18446744073709551616 ∧ X + b % 128 * 128 ^ i < 18446744073709551616 := by
  have e9 : (128 : Nat) ^ 9 = 9223372036854775808 := by decide
  by_cases h9 : i = 9
  · subst h9
    have : b % 128 * 128 ^ 9 ≤ 1 * 128 ^ 9 := Nat.mul_le_mul_right _ (by have := hb rfl; omega)
    omega
  · have h4 : 128 ^ (i + 1) ≤ 128 ^ 9 := Nat.pow_le_pow_right (by decide) (by omega)
    have h5 : b % 128 * 128 ^ i ≤ 127 * 128 ^ i := Nat.mul_le_mul_right _ (by omega)
    rw [Nat.pow_succ] at h4
    omega
theorem shl_eq (b i : Nat) : (b : Int) % 128 * 2 ^ (7 * i) = ((b % 128 * 128 ^ i : Nat) : Int) := by
  have e1 : (128 : Nat) ^ i = 2 ^ (7 * i) := by rw [Nat.pow_mul]
  rw [e1]; simp
set_option maxRecDepth 100000 in
set_option maxHeartbeats 4000000 in
theorem number_c (ao : Option Addr) (n cap K : Nat) (bs : List Nat) (r : Except Nat (Nat × Nat)) (w : World) (h : Hid (InB w (.slice ao n cap) bs)) (hn : Hid (n = bs.length)) (hk : K ≤ n) (hbig : n ≤ 140737488355328) (hby : Hid (∀ b ∈ bs, b < 256)) (hr : Hid (Pk.rv 0 0 (bs.drop K) = r)) :
    Calls Tryd.prog 45 #[.slice ao n cap, .int .i64 (K : Int)] w fun e w' => e = .returned (.tuple #[.int .u64 (Pk.ux r : Nat), .int .i64 ((K + Pk.ud r : Nat) : Int), .int .i64 (en r : Nat)]) ∧ w = w' := by
  go_enter Tryd.func45, Tryd.ntmps45
  go_wp2
  go_loop [7, 8] (fun sx si => ∃ X i : Nat, sx = .int .u64 (X : Int) ∧ si = .int .i64 (i : Int) ∧ i ≤ 9 ∧ K + i ≤ n ∧ Hid (X < 128 ^ i) ∧ Hid (Pk.rv i X (bs.drop (K + i)) = r)) (fun _ si => 10 - (intOf si).toNat)
  case atStart => exact ⟨0, 0, rfl, rfl, by decide, by omega, (by decide : 0 < 128 ^ 0), hr⟩
  case round =>
    obtain ⟨X, i, rfl, rfl, hi, hki, hX, hrv⟩ := hrel
    obtain ⟨J, hJ⟩ : ∃ J : Nat, J = K + i := ⟨_, rfl⟩
    have hJi : (K : Int) + (i : Int) = (J : Int) := by omega
    obtain ⟨J1, hJ1⟩ : ∃ J1 : Nat, J1 = J + 1 := ⟨_, rfl⟩
    have hJ2 : (J : Int) + 1 = (J1 : Int) := by omega
    have hJ1H : Hid (J1 = J + 1) := hJ1
    have hJ3 : (J1 : Int) ≤ 140737488355329 := by omega
    clear hJ1
    have hJH : Hid (J = K + i) := hJ
    have hJb : J ≤ n := by omega
    rw [← hJ] at hrv
    clear hJ
    by_cases hlt : J < n
    · have hlt' : decide ((n : Int) ≤ (J : Int)) = false := decide_eq_false (by omega)
      have hlt1 : ¬ n ≤ J := by omega
      have hlt2 : (J : Int) < (n : Int) := by omega
      have hlt3 : J < bs.length := by have := hn.out; omega
      obtain ⟨q, o, hq, hcap, hcells⟩ := rowI h.out (fun hh => by rw [hh] at hlt3; exact absurd hlt3 (Nat.not_lt_zero _))
      subst hq
      have hcell := hcells J hlt3
      have hb := hby.out _ (getD_mem hlt3)
      have hdr : Hid (bs.drop J = bs.getD J 0 :: bs.drop (J + 1)) := drop_at hlt3
      generalize bs.getD J 0 = b at hcell hb hdr
      have hw7 : IntKind.i64.wrap (7 * (i : Int)) = 7 * (i : Int) := by rw [IntKind.wrap_i64]; omega
      clear hcells hcap hlt3
      by_cases h9 : i = 9
      · have h9H : Hid (i = 9) := h9
        have h9' : ((i : Int) == 9) = true := beq_iff_eq.2 (by omega)
        have hi0 : (0 : Int) < (i : Int) := by omega
        have hi00 : 0 < i := by omega
        clear h9
        by_cases hb1 : 1 < b
        · have hb1' : (1 : Int) < (b : Int) := by omega
          have hfin : Hid (r = .error 1) := by rw [← hrv.out, hdr.out]; exact Pk.rv_nine h9H.out hb1
          clear hrv hdr hX
          go_wp2
          go_ret3
          rw [hfin.out]
          exact ⟨rfl, rfl⟩
        · have hb1' : decide ((1 : Int) < (b : Int)) = false := decide_eq_false (by omega)
          have hno : Hid (¬ (i = 9 ∧ 1 < b)) := fun hh => hb1 hh.2
          by_cases hb0 : b = 0
          · have hb0H : Hid (b = 0) := hb0
            have hb0' : ((b : Int) == 0) = true := beq_iff_eq.2 (by omega)
            clear hb0
            have hfin : Hid (r = .error 1) := by rw [← hrv.out, hdr.out]; exact Pk.rv_zero hno.out hb0H.out hi00
            clear hrv hdr hX
            go_wp2
            go_ret3
            rw [hfin.out]
            exact ⟨rfl, rfl⟩
          · have hb0' : ((b : Int) == 0) = false := beq_eq_false_iff_ne.2 (by omega)
            have hz0 : Hid (¬ (b = 0 ∧ 0 < i)) := fun hh => hb0 hh.1
            have hble : b ≤ 1 := by omega
            clear hb0
            obtain ⟨Y, hY⟩ : ∃ Y, Hid (Y = X + b % 128 * 128 ^ i) := ⟨_, rfl⟩
            have hls := adsh (b := b) hX.out hi (fun _ => hble)
            have hw1 : IntKind.u64.wrap ((b % 128 * 128 ^ i : Nat) : Int) = ((b % 128 * 128 ^ i : Nat) : Int) := wrapId _ hls.1
            have hw1' : (b : Int) % 128 * 2 ^ (7 * i) = ((b % 128 * 128 ^ i : Nat) : Int) := shl_eq b i
            have hw2 : (X : Int) + ((b % 128 * 128 ^ i : Nat) : Int) = (Y : Int) := by rw [hY.out]; omega
            have hw3 : IntKind.u64.wrap (Y : Int) = (Y : Int) := wrapId _ (by rw [hY.out]; exact hls.2)
            clear hls
            by_cases hb8 : b < 128
            · have hb7 : Hid (b < 128) := hb8
              have hb8' : (b : Int) < 128 := by omega
              have hfin : Hid (r = .ok (Y, i + 1)) := by rw [← hrv.out, hdr.out, hY.out]; exact Pk.rv_last hno.out hb8 hz0.out
              have hKJ : Hid ((J1 : Int) = ((K + (i + 1) : Nat) : Int)) := by show _ = _; have := hJH.out; have := hJ1H.out; omega
              generalize b % 128 * 128 ^ i = S at hw1 hw1' hw2 hY
              clear hrv hdr hX hY hno hz0
              go_wp2
              go_ret3
              rw [hfin.out]
              exact ⟨by rw [hKJ.out]; rfl, rfl⟩
            · have hb8' : decide ((b : Int) < 128) = false := decide_eq_false (by omega)
              have hnext : Hid (Pk.rv (i + 1) Y (bs.drop (K + (i + 1))) = r) := by
                rw [← hrv.out, hdr.out, hY.out, show K + (i + 1) = J + 1 by have := hJH.out; omega]; exact (Pk.rv_more hno.out hb8).symm
              have hXn : Hid (Y < 128 ^ (i + 1)) := by
                show _ < _
                have h5 : b % 128 * 128 ^ i ≤ 127 * 128 ^ i := Nat.mul_le_mul_right _ (by omega)
                have := hX.out
                rw [hY.out, Nat.pow_succ]; omega
              have hi1 : Hid (i + 1 ≤ 9 ∧ K + (i + 1) ≤ n) := by have := hno.out; have := hJH.out; exact ⟨by omega, by omega⟩
              generalize b % 128 * 128 ^ i = S at hw1 hw1' hw2 hY
              clear hrv hdr hX hY hno hz0
              go_wp2
              go_round
              case rel => exact ⟨Y, i + 1, rfl, by go_num, hi1.out.1, hi1.out.2, hXn, hnext⟩
              case measure => simp [intOf]; omega
      · have h9' : ((i : Int) == 9) = false := beq_eq_false_iff_ne.2 (by omega)
        have hno : Hid (¬ (i = 9 ∧ 1 < b)) := fun hh => h9 hh.1
        by_cases hi0 : 0 < i
        · have hi0' : (0 : Int) < (i : Int) := by omega
          by_cases hb0 : b = 0
          · have hb0H : Hid (b = 0) := hb0
            have hb0' : ((b : Int) == 0) = true := beq_iff_eq.2 (by omega)
            clear hb0
            have hfin : Hid (r = .error 1) := by rw [← hrv.out, hdr.out]; exact Pk.rv_zero hno.out hb0H.out hi0
            clear hrv hdr hX
            go_wp2
            go_ret3
            rw [hfin.out]
            exact ⟨rfl, rfl⟩
          · have hb0' : ((b : Int) == 0) = false := beq_eq_false_iff_ne.2 (by omega)
            have hz0 : Hid (¬ (b = 0 ∧ 0 < i)) := fun hh => hb0 hh.1
            clear hb0
            obtain ⟨Y, hY⟩ : ∃ Y, Hid (Y = X + b % 128 * 128 ^ i) := ⟨_, rfl⟩
            have hls := adsh (b := b) hX.out hi (fun hh => absurd hh h9)
            have hw1 : IntKind.u64.wrap ((b % 128 * 128 ^ i : Nat) : Int) = ((b % 128 * 128 ^ i : Nat) : Int) := wrapId _ hls.1
            have hw1' : (b : Int) % 128 * 2 ^ (7 * i) = ((b % 128 * 128 ^ i : Nat) : Int) := shl_eq b i
            have hw2 : (X : Int) + ((b % 128 * 128 ^ i : Nat) : Int) = (Y : Int) := by rw [hY.out]; omega
            have hw3 : IntKind.u64.wrap (Y : Int) = (Y : Int) := wrapId _ (by rw [hY.out]; exact hls.2)
            clear hls
            by_cases hb8 : b < 128
            · have hb7 : Hid (b < 128) := hb8
              have hb8' : (b : Int) < 128 := by omega
              have hfin : Hid (r = .ok (Y, i + 1)) := by rw [← hrv.out, hdr.out, hY.out]; exact Pk.rv_last hno.out hb8 hz0.out
              have hKJ : Hid ((J1 : Int) = ((K + (i + 1) : Nat) : Int)) := by show _ = _; have := hJH.out; have := hJ1H.out; omega
              generalize b % 128 * 128 ^ i = S at hw1 hw1' hw2 hY
              clear hrv hdr hX hY hno hz0
              go_wp2
              go_ret3
              rw [hfin.out]
              exact ⟨by rw [hKJ.out]; rfl, rfl⟩
            · have hb8' : decide ((b : Int) < 128) = false := decide_eq_false (by omega)
              have hnext : Hid (Pk.rv (i + 1) Y (bs.drop (K + (i + 1))) = r) := by
                rw [← hrv.out, hdr.out, hY.out, show K + (i + 1) = J + 1 by have := hJH.out; omega]; exact (Pk.rv_more hno.out hb8).symm
              have hXn : Hid (Y < 128 ^ (i + 1)) := by
                show _ < _
                have h5 : b % 128 * 128 ^ i ≤ 127 * 128 ^ i := Nat.mul_le_mul_right _ (by omega)
                have := hX.out
                rw [hY.out, Nat.pow_succ]; omega
              have hi1 : Hid (i + 1 ≤ 9 ∧ K + (i + 1) ≤ n) := by have := hno.out; have := hJH.out; exact ⟨by omega, by omega⟩
              generalize b % 128 * 128 ^ i = S at hw1 hw1' hw2 hY
              clear hrv hdr hX hY hno hz0
              go_wp2
              go_round
              case rel => exact ⟨Y, i + 1, rfl, by go_num, hi1.out.1, hi1.out.2, hXn, hnext⟩
              case measure => simp [intOf]; omega
        · have hi0' : decide ((0 : Int) < (i : Int)) = false := decide_eq_false (by omega)
          have hz0 : Hid (¬ (b = 0 ∧ 0 < i)) := fun hh => hi0 hh.2
          obtain ⟨Y, hY⟩ : ∃ Y, Hid (Y = X + b % 128 * 128 ^ i) := ⟨_, rfl⟩
          have hls := adsh (b := b) hX.out hi (fun hh => absurd hh h9)
          have hw1 : IntKind.u64.wrap ((b % 128 * 128 ^ i : Nat) : Int) = ((b % 128 * 128 ^ i : Nat) : Int) := wrapId _ hls.1
          have hw1' : (b : Int) % 128 * 2 ^ (7 * i) = ((b % 128 * 128 ^ i : Nat) : Int) := shl_eq b i
          have hw2 : (X : Int) + ((b % 128 * 128 ^ i : Nat) : Int) = (Y : Int) := by rw [hY.out]; omega
          have hw3 : IntKind.u64.wrap (Y : Int) = (Y : Int) := wrapId _ (by rw [hY.out]; exact hls.2)
          clear hls
          by_cases hb8 : b < 128
          · have hb7 : Hid (b < 128) := hb8
            have hb8' : (b : Int) < 128 := by omega
            have hfin : Hid (r = .ok (Y, i + 1)) := by rw [← hrv.out, hdr.out, hY.out]; exact Pk.rv_last hno.out hb8 hz0.out
            have hKJ : Hid ((J1 : Int) = ((K + (i + 1) : Nat) : Int)) := by show _ = _; have := hJH.out; have := hJ1H.out; omega
            generalize b % 128 * 128 ^ i = S at hw1 hw1' hw2 hY
            clear hrv hdr hX hY hno hz0
            go_wp2
            go_ret3
            rw [hfin.out]
            exact ⟨by rw [hKJ.out]; rfl, rfl⟩
          · have hb8' : decide ((b : Int) < 128) = false := decide_eq_false (by omega)
            have hnext : Hid (Pk.rv (i + 1) Y (bs.drop (K + (i + 1))) = r) := by
              rw [← hrv.out, hdr.out, hY.out, show K + (i + 1) = J + 1 by have := hJH.out; omega]; exact (Pk.rv_more hno.out hb8).symm
            have hXn : Hid (Y < 128 ^ (i + 1)) := by
              show _ < _
              have h5 : b % 128 * 128 ^ i ≤ 127 * 128 ^ i := Nat.mul_le_mul_right _ (by omega)
              have := hX.out
              rw [hY.out, Nat.pow_succ]; omega
            have hi1 : Hid (i + 1 ≤ 9 ∧ K + (i + 1) ≤ n) := by have := hno.out; have := hJH.out; exact ⟨by omega, by omega⟩
            generalize b % 128 * 128 ^ i = S at hw1 hw1' hw2 hY
            clear hrv hdr hX hY hno hz0
            go_wp2
            go_round
            case rel => exact ⟨Y, i + 1, rfl, by go_num, hi1.out.1, hi1.out.2, hXn, hnext⟩
            case measure => simp [intOf]; omega
    · have hlt' : (n : Int) ≤ (J : Int) := by omega
      have hlt1 : n ≤ J := by omega
      have hfin : Hid (r = .error 0) := by
        rw [← hrv.out, List.drop_eq_nil_of_le (by have := hn.out; omega)]; rfl
      clear hrv hX
      go_wp2
      go_ret3
      rw [hfin.out]
      exact ⟨rfl, rfl⟩
end Go.Proofs.YtmlfichdfeblpaaDoor
/-
  timbreref04, what is read: Uint, upto, Upto, Int, Done.
-/
namespace Go.Proofs.YtmlfichdfeblpaaDoor
open Flo Go.RowKit
theorem upr_most {most : Int} {c n : Nat} (h : (c : Int) ≤ most) : upr most (.ok (c, n)) = .ok (c, n) := by
  unfold upr
  simp only
  rw [if_neg (by omega)]
/-- a Reader of the document's at g: bytes that came in -/
structure RsV (R : Nat → Prop) (w : World) (g : Nat) (v : Value) (bs : List Nat) (k : Nat) : Prop where
  c0 : w.cell? ⟨g, 0, none⟩ = some v
  c1 : w.cell? ⟨g, 1, none⟩ = some (.int .i64 (k : Int))
  free : w.frozen? ⟨g, 1, none⟩ = false
  own : InB w v bs
  ne : bs ≠ [] → ∀ (a : Addr) (n c : Nat), v = .slice (some a) n c → a.block ≠ g
  rg : R g
  rv : bs ≠ [] → ∀ (a : Addr) (n c : Nat), v = .slice (some a) n c → R a.block
  le : k ≤ bs.length
def Rs (R : Nat → Prop) (w : World) (g : Nat) (bs : List Nat) (k : Nat) : Prop := ∃ v, RsV R w g v bs k
section
variable {R S T : Nat → Prop} {w w' : World} {g k : Nat} {v : Value} {bs : List Nat}
theorem InB.kept (h : InB w v bs) (hc : bs ≠ [] → ∀ p : Addr, (∃ (a : Addr) (n c : Nat), v = .slice (some a) n c ∧ p.block = a.block) → ∀ u, w.cell? p = some u → w'.cell? p = some u) (hs : w.heap.size ≤ w'.heap.size) : InB w' v bs := by
  refine ⟨?_, fun hne => ?_, h.byt, h.big⟩
  · rcases h.src with h1 | ⟨a, cap, rfl, h1⟩
    · exact .inl h1
    · exact .inr ⟨a, cap, rfl, fun j u hj => hc (fun e => by rw [e] at hj; simp [bc] at hj) (a.add j) ⟨a, _, _, rfl, by unfold Addr.add; split <;> rfl⟩ u (h1 j u hj)⟩
  · obtain ⟨q, o, cap, h1, h2, h3, h4⟩ := h.some_ hne
    exact ⟨q, o, cap, h1, h2, Nat.lt_of_lt_of_le h3 hs, fun i hi => hc hne ⟨q, o + i, none⟩ ⟨_, _, _, h1, rfl⟩ _ (h4 i hi)⟩
theorem RsV.lt (h : RsV R w g v bs k) : g < w.heap.size := World.block_lt_of_cell? w _ h.c0
theorem RsV.under (h : RsV R w g v bs k) (hf : Fr S w w') (hS : ∀ k, k < w.heap.size → S k → ¬ R k) : RsV R w' g v bs k :=
  ⟨hf.cell h.c0 fun hs => hS _ h.lt hs h.rg, hf.cell h.c1 fun hs => hS _ h.lt hs h.rg, (hf.frozen h.lt fun hs => hS _ h.lt hs h.rg).trans h.free,
   h.own.kept (fun hne p hp u hu => by
     obtain ⟨a, n, c, h1, h2⟩ := hp
     exact hf.cell hu fun hs => hS _ (World.block_lt_of_cell? w _ hu) hs (by rw [h2]; exact h.rv hne a n c h1)) hf.size, h.ne, h.rg, h.rv, h.le⟩
theorem Rs.under (h : Rs R w g bs k) (hf : Fr S w w') (hS : ∀ k, k < w.heap.size → S k → ¬ R k) : Rs R w' g bs k := by
  obtain ⟨v, h⟩ := h; exact ⟨v, h.under hf hS⟩
theorem Rs.le (h : Rs R w g bs k) : k ≤ bs.length := by obtain ⟨v, h⟩ := h; exact h.le
theorem Rs.byt (h : Rs R w g bs k) : ∀ b ∈ bs, b < 256 := by obtain ⟨v, h⟩ := h; exact h.own.byt
theorem Rs.lt (h : Rs R w g bs k) : g < w.heap.size := by obtain ⟨v, h⟩ := h; exact h.lt
theorem RsV.byt (h : RsV R w g v bs k) : ∀ b ∈ bs, b < 256 := h.own.byt
theorem RsV.move (h : RsV R w g v bs k) {j : Nat} (hj : j ≤ bs.length) : RsV R (w.setCell ⟨g, 1, none⟩ (.int .i64 (j : Int))) g v bs j :=
  ⟨by rw [World.cell?_setCell_other _ _ _ _ (by simp)]; exact h.c0, World.cell?_setCell_same _ _ _ h.c1, by rw [World.frozen?_setCell]; exact h.free,
   h.own.kept (fun hne p hp u hu => by
     obtain ⟨a, n, c, h1, h2⟩ := hp
     rw [World.cell?_setCell_other _ _ _ _ (by intro e; exact h.ne hne a n c h1 (by rw [← h2, ← e]))]
     exact hu) (by simp [World.setCell]), h.ne, h.rg, h.rv, hj⟩
theorem RsV.qt (h : RsV R w g v bs k) (hq : Qt w w') : RsV R w' g v bs k := h.under (hq.fr (fun _ => False)) fun _ _ h => h.elim
theorem RsV.slice (h : RsV R w g v bs k) : ∃ n ao cap, v = .slice ao n cap ∧ Hid (n = bs.length) := h.own.src.slice
end
theorem number_q {R : Nat → Prop} {w W : World} {g k K n cap : Nat} {ao : Option Addr} {bs : List Nat} (h : RsV R w g (.slice ao n cap) bs k) (hn : n = bs.length) (hK : K ≤ n) (hq : Qt w W) :
    Calls Tryd.prog 45 #[.slice ao n cap, .int .i64 (K : Int)] W fun e w' => e = .returned (.tuple #[.int .u64 (Pk.ux (Pk.rv 0 0 (bs.drop K)) : Nat), .int .i64 ((K + Pk.ud (Pk.rv 0 0 (bs.drop K)) : Nat) : Int), .int .i64 (en (Pk.rv 0 0 (bs.drop K)) : Nat)]) ∧ w' = W :=
  (number_c ao n cap K bs _ W (h.qt hq).own hn hK (by rw [hn]; exact Nat.le_trans h.own.big (by decide)) h.byt rfl).mono fun _ _ hh => ⟨hh.1, hh.2.symm⟩
theorem en_err {α : Type} (c : Nat) : en (.error c : Except Nat α) = c + 1 := rfl
theorem en_ok {α : Type} (a : α) : en (.ok a : Except Nat α) = 0 := rfl
theorem ux_err (c : Nat) : Pk.ux (.error c) = 0 := rfl
theorem udE {α : Type} (c : Nat) : Pk.ud (.error c : Except Nat (α × Nat)) = 0 := rfl
theorem uxO (x n : Nat) : Pk.ux (.ok (x, n)) = x := rfl
theorem udO {α : Type} (x : α) (n : Nat) : Pk.ud (.ok (x, n)) = n := rfl
theorem upr_e (most : Int) (c : Nat) : upr most (.error c) = .error c := rfl
set_option maxRecDepth 100000 in
set_option maxHeartbeats 1000000 in
theorem tupto_c (R : Nat → Prop) (g k K : Nat) (most : Int) (bs : List Nat) (w : World) (h : Rs R w g bs k) (hK : K ≤ bs.length) (hm : most ≤ 9223372036854775807) :
    Calls Tryd.prog 35 #[.pointer (some ⟨g, 0, none⟩), .int .i64 (K : Int), .int .i64 most] w fun e w' => e = .returned (.tuple #[.int .i64 (Pk.ux (upr most (Pk.rv 0 0 (bs.drop K))) : Nat), .int .i64 ((K + Pk.ud (upr most (Pk.rv 0 0 (bs.drop K))) : Nat) : Int), .int .i64 (en (upr most (Pk.rv 0 0 (bs.drop K))) : Nat)]) ∧ w = w' := by
  obtain ⟨v, h⟩ := h
  obtain ⟨n, ao, cap, rfl, hn⟩ := h.slice
  have hc0 := h.c0
  have hnum : Hid (Calls Tryd.prog 45 #[.slice ao n cap, .int .i64 (K : Int)] w fun e w' => e = .returned (.tuple #[.int .u64 (Pk.ux (Pk.rv 0 0 (bs.drop K)) : Nat), .int .i64 ((K + Pk.ud (Pk.rv 0 0 (bs.drop K)) : Nat) : Int), .int .i64 (en (Pk.rv 0 0 (bs.drop K)) : Nat)]) ∧ w' = w) := number_q h hn.out (by rw [hn.out]; exact hK) (Qt.refl w)
  have hub := (Pk.rv_bd h.byt K hK).1
  clear h
  cases hr : Pk.rv 0 0 (bs.drop K) with
  | error c =>
    rw [hr, ux_err, udE, en_err, Nat.add_zero] at hnum
    rw [upr_e, ux_err, udE, en_err, Nat.add_zero]
    obtain ⟨E, hE⟩ : ∃ E, E = c + 1 := ⟨_, rfl⟩
    rw [← hE] at hnum ⊢
    have e1 : ((E : Int) == 0) = false := beq_eq_false_iff_ne.2 (by omega)
    have e2 : ((E : Int) != 0) = true := by simp [bne, e1]
    clear hE hr hub
    go_enter Tryd.func35, Tryd.ntmps35
    go_wp2_with fail
    refine hnum.out.mono ?_
    rintro e w' ⟨rfl, rfl⟩
    go_wp2
    go_ret3
    exact ⟨rfl, rfl⟩
  | ok p =>
    obtain ⟨x, j⟩ := p
    rw [hr, uxO, udO, en_ok] at hnum
    rw [hr, uxO] at hub
    by_cases hm0 : most < 0
    · rw [upr_lim (.inl hm0), ux_err, udE, en_err, Nat.add_zero]
      clear hr hub hm
      go_enter Tryd.func35, Tryd.ntmps35
      go_wp2_with fail
      refine hnum.out.mono ?_
      rintro e w' ⟨rfl, rfl⟩
      go_wp2
      go_ret3
      exact ⟨rfl, rfl⟩
    · have hm1 : decide (most < 0) = false := decide_eq_false hm0
      obtain ⟨M, rfl⟩ : ∃ M : Nat, most = (M : Int) := ⟨most.toNat, by omega⟩
      have hwM : IntKind.u64.wrap (M : Int) = (M : Int) := wrapId _ (by omega)
      by_cases hgt : M < x
      · rw [upr_lim (.inr (by omega)), ux_err, udE, en_err, Nat.add_zero]
        have hgt' : (M : Int) < (x : Int) := by omega
        clear hr hub hm
        go_enter Tryd.func35, Tryd.ntmps35
        go_wp2_with fail
        refine hnum.out.mono ?_
        rintro e w' ⟨rfl, rfl⟩
        go_wp2
        go_ret3
        exact ⟨rfl, rfl⟩
      · rw [upr_most (by omega), uxO, udO, en_ok]
        have hgt' : decide ((M : Int) < (x : Int)) = false := decide_eq_false (by omega)
        have hwx : IntKind.i64.wrap (x : Int) = (x : Int) := by rw [IntKind.wrap_i64]; omega
        clear hr hub hm
        go_enter Tryd.func35, Tryd.ntmps35
        go_wp2_with fail
        refine hnum.out.mono ?_
        rintro e w' ⟨rfl, rfl⟩
        go_wp2
        go_ret3
        exact ⟨rfl, rfl⟩
set_option maxRecDepth 100000 in
set_option maxHeartbeats 1000000 in
theorem tupto2_c (R : Nat → Prop) (g k : Nat) (most : Int) (bs : List Nat) (w : World) (h : Rs R w g bs k) (hm : most ≤ 9223372036854775807) :
    Calls Tryd.prog 17 #[.pointer (some ⟨g, 0, none⟩), .int .i64 most] w fun e w' => e = .returned (.tuple #[.int .i64 (Pk.ux (upr most (Pk.rv 0 0 (bs.drop k))) : Nat), .int .i64 (en (upr most (Pk.rv 0 0 (bs.drop k))) : Nat)]) ∧ Rs R w' g bs (k + Pk.ud (upr most (Pk.rv 0 0 (bs.drop k)))) ∧ Fr (fun j => j = g) w w' := by
  have hu := tupto_c R g k k most bs w h h.le hm
  have hbd : Hid (k + Pk.ud (upr most (Pk.rv 0 0 (bs.drop k))) ≤ bs.length) := upr_bd h.byt k h.le most
  obtain ⟨v, h⟩ := h
  have hH : Hid (RsV R w g v bs k) := h
  have hc1 := h.c1
  have hfz := h.free
  obtain ⟨X, hX⟩ : ∃ X, Hid (X = Pk.ux (upr most (Pk.rv 0 0 (bs.drop k)))) := ⟨_, rfl⟩
  obtain ⟨J, hJ⟩ : ∃ J, Hid (J = k + Pk.ud (upr most (Pk.rv 0 0 (bs.drop k)))) := ⟨_, rfl⟩
  obtain ⟨E, hE⟩ : ∃ E, Hid (E = en (upr most (Pk.rv 0 0 (bs.drop k)))) := ⟨_, rfl⟩
  rw [← hX.out, ← hJ.out, ← hE.out] at hu ⊢
  rw [← hJ.out] at hbd
  have huH : Hid (Calls Tryd.prog 35 #[.pointer (some ⟨g, 0, none⟩), .int .i64 (k : Int), .int .i64 most] w fun e w' => e = .returned (.tuple #[.int .i64 (X : Int), .int .i64 (J : Int), .int .i64 (E : Int)]) ∧ w = w') := hu
  clear h hu
  go_enter Tryd.func17, Tryd.ntmps17
  go_wp2_with fail
  refine huH.out.mono ?_
  rintro e w' ⟨rfl, rfl⟩
  go_wp2
  go_ret2
  exact ⟨rfl, ⟨_, hH.out.move hbd.out⟩, mv_fr _ g _⟩
/-- what Done answers -/
def dnn (k n : Nat) : Nat := if k < n then 4 else 0
set_option maxHeartbeats 1000000 in
theorem tdone_c (R : Nat → Prop) (g k : Nat) (bs : List Nat) (w : World) (h : Rs R w g bs k) :
    Calls Tryd.prog 19 #[.pointer (some ⟨g, 0, none⟩)] w fun e w' => e = .returned (.int .i64 (dnn k bs.length : Nat)) ∧ Qt w w' := by
  obtain ⟨v, h⟩ := h
  obtain ⟨n, ao, cap, rfl, hn⟩ := h.slice
  have hc0 := h.c0
  have hc1 := h.c1
  clear h
  by_cases hk : k < n
  · have hif : Hid (dnn k bs.length = 4) := if_pos (by rw [← hn.out]; exact hk)
    have hk' : (k : Int) < (n : Int) := by omega
    rw [hif.out]
    go_enter Tryd.func19, Tryd.ntmps19
    go_wp2
    go_region
    all_goals (
      go_wp2
      go_ret
      exact ⟨rfl, Qt.drew w⟩)
  · have hif : Hid (dnn k bs.length = 0) := if_neg (by rw [← hn.out]; exact hk)
    have hk' : decide ((k : Int) < (n : Int)) = false := decide_eq_false (by omega)
    rw [hif.out]
    go_enter Tryd.func19, Tryd.ntmps19
    go_wp2
    go_region
    all_goals (
      go_wp2
      go_ret
      exact ⟨rfl, Qt.drew w⟩)
end Go.Proofs.YtmlfichdfeblpaaDoor
