/-
  Package pack: a Writer's fixed, Float, Complex.
-/
import Derived.Test.YtjckgcjcpmnhhaaDoorPk2
namespace Go.Proofs.YtjckgcjcpmnhhaaDoor
open Flo Go.RowKit
set_option maxRecDepth 100000 in
set_option maxHeartbeats 1000000 in
theorem wfixed_c (F : Nat → Prop) (g : Nat) (ys : List Nat) (x k : Nat) (w : World) (h : Wr F w g ys) (hF : ∀ k, w.heap.size ≤ k → F k) (hx : x < 18446744073709551616) (hk : k ≤ 8) (hl : ys.length ≤ 140737488350000) :
    Calls Tryd.prog 70 #[.pointer (some ⟨g, 0, none⟩), .int .u64 x, .int .i64 k] w fun e w' => e = .returned (.tuple #[]) ∧ Wr F w' g (ys ++ Pk.lo k x) ∧ Fr F w w' := by
  have hH : Hid (Wr F w g ys) := h
  have hFH : Hid (∀ k, w.heap.size ≤ k → F k) := hF
  clear h hF
  go_enter Tryd.func70, Tryd.ntmps70
  go_wp2
  go_loopw [1, 7] (fun sx si wr => ∃ (X i : Nat) (p : List Nat), sx = .int .u64 (X : Int) ∧ si = .int .i64 (i : Int) ∧ i ≤ k ∧ X < 18446744073709551616 ∧ Hid (X = x / 256 ^ i) ∧ Hid (p = ys ++ Pk.lo i x) ∧ Hid (Wr F wr g p) ∧ Hid (Fr F w wr)) (fun _ si _ => k - (intOf si).toNat)
  case atStart => exact ⟨x, 0, ys, rfl, rfl, Nat.zero_le _, hx, by simp [Hid], by simp [Hid, Pk.lo], hH, Fr.refl _ _⟩
  case round =>
    obtain ⟨X, i, p, rfl, rfl, hi, hX, hXe, hp, hw, hf⟩ := hrel
    by_cases hlt : i < k
    · have hlt' : (i : Int) < (k : Int) := by omega
      obtain ⟨v, hv⟩ := hw.out
      have hvH : Hid (WrV F wr g v p) := hv
      have hc := hv.cell
      have hz := hv.free
      have hgl := hv.lt
      have hpl : Hid (p.length ≤ ys.length + 8) := by
        show _ ≤ _
        rw [hp.out, List.length_append, Pk.lo_len]; omega
      have hnext : Hid (p ++ [X % 256] = ys ++ Pk.lo (i + 1) x) := by
        show _ = _
        rw [hp.out, hXe.out, Pk.lo_snoc, List.append_assoc]
      have hXn : Hid (X / 256 = x / 256 ^ (i + 1)) := by
        show _ = _
        rw [hXe.out, Nat.div_div_eq_div_mul, ← Nat.pow_succ]
      have hy : (X : Int) % 256 = ((X % 256 : Nat) : Int) := by omega
      clear hv hw hXe hp
      obtain ⟨y, hyy⟩ : ∃ y, X % 256 = y := ⟨_, rfl⟩
      rw [hyy] at hnext hy
      clear hyy
      go_wp2_with (first | (at_builtin; refine appB _ rfl _ _ rfl p y wr.heap.size v rfl rfl (World.ownsRow.alloc hvH.out.own _) (by simp) (by have := hpl.out; omega) ?_) | fail)
      intro v' w2 ho hg hn
      obtain ⟨c2, z2, hv2, hf2⟩ := hvH.out.push (fun k hk => hFH.out k (Nat.le_trans hf.out.size hk)) ho hg hn
      have hf3 : Hid (Fr F w (w2.setCell ⟨g, 0, none⟩ v')) := hf.out.then hf2.out
      obtain ⟨n', ao, cap, rfl, _⟩ := ho.slice
      clear ho hg hn hf2 hf hvH hc hz hgl hy
      go_wp2
      go_roundw
      case rel => exact ⟨X / 256, i + 1, p ++ [y], by go_num, by go_num, by omega, by omega, hXn, hnext, ⟨_, hv2.out⟩, hf3⟩
      case measure => simp [intOf]; omega
    · have hlt' : decide ((i : Int) < (k : Int)) = false := decide_eq_false (by omega)
      have hik : Hid (p = ys ++ Pk.lo k x) := by
        have := hp.out; rw [show i = k by omega] at this; exact this
      clear hp hXe
      go_wp2
      go_end0
      exact ⟨rfl, by rw [← hik.out]; exact hw.out, hf.out⟩
set_option maxHeartbeats 1000000 in
theorem wfloat_c (F : Nat → Prop) (g : Nat) (ys : List Nat) (n : Nat) (w : World) (h : Wr F w g ys) (hF : ∀ k, w.heap.size ≤ k → F k) (hn : n < 18446744073709551616) (hl : ys.length ≤ 140737488350000) :
    Calls Tryd.prog 27 #[.pointer (some ⟨g, 0, none⟩), .float .f64 n] w fun e w' => e = .returned (.tuple #[]) ∧ Wr F w' g (ys ++ Pk.lo 8 (bt n)) ∧ Fr F w w' := by
  have hbl := bt_lt hn
  have hH : Hid (Wr F w g ys) := h
  have hFH : Hid (∀ k, w.heap.size ≤ k → F k) := hF
  clear h hF
  go_enter Tryd.func27, Tryd.ntmps27
  go_wp2_with fail
  refine (bits_c n w hn).mono ?_
  rintro e w' ⟨rfl, rfl⟩
  go_wp2_with fail
  refine (wfixed_c F g ys (bt n) 8 w hH.out hFH.out hbl (by decide) hl).mono ?_
  rintro e w' ⟨rfl, h1, h2⟩
  go_wp2
  go_end0
  exact ⟨rfl, h1, h2⟩
set_option maxHeartbeats 1000000 in
theorem wcomplex_c (F : Nat → Prop) (g : Nat) (ys : List Nat) (a b : Nat) (w : World) (h : Wr F w g ys) (hF : ∀ k, w.heap.size ≤ k → F k) (ha : a < 18446744073709551616) (hb : b < 18446744073709551616) (hl : ys.length ≤ 140737488349000) :
    Calls Tryd.prog 37 #[.pointer (some ⟨g, 0, none⟩), .complex .f64 a b] w fun e w' => e = .returned (.tuple #[]) ∧ Wr F w' g (ys ++ (Pk.lo 8 (bt a) ++ Pk.lo 8 (bt b))) ∧ Fr F w w' := by
  have hH : Hid (Wr F w g ys) := h
  have hFH : Hid (∀ k, w.heap.size ≤ k → F k) := hF
  clear h hF
  go_enter Tryd.func37, Tryd.ntmps37
  go_wp2_with fail
  refine (wfloat_c F g ys a w hH.out hFH.out ha (by omega)).mono ?_
  rintro e w1 ⟨rfl, h1, h2⟩
  have h1H : Hid (Wr F w1 g (ys ++ Pk.lo 8 (bt a))) := h1
  have h2H : Hid (Fr F w w1) := h2
  clear h1 h2
  go_wp2_with fail
  refine (wfloat_c F g _ b w1 h1H.out (fun k hk => hFH.out k (Nat.le_trans h2H.out.size hk)) hb (by rw [List.length_append, Pk.lo_len]; omega)).mono ?_
  rintro e w2 ⟨rfl, h3, h4⟩
  have h3H : Hid (Wr F w2 g (ys ++ (Pk.lo 8 (bt a) ++ Pk.lo 8 (bt b)))) := by rw [← List.append_assoc]; exact h3
  have h4H : Hid (Fr F w w2) := h2H.out.then h4
  clear h3 h4
  go_wp2
  go_end0
  exact ⟨rfl, h3H.out, h4H.out⟩
end Go.Proofs.YtjckgcjcpmnhhaaDoor
