/-
  Package pack: a Writer's Uint.
-/
import Derived.Test.YtmlfichdfeblpaaDoorPk1
import Derived.Test.YtmlfichdfeblpaaDoorPkm
import Derived.Laws.BitsAllLaws
namespace Go.Proofs.YtmlfichdfeblpaaDoor
open Flo Go.RowKit
theorem or128 (x : Nat) : bits .or .u8 ((x : Int) % 256) 128 = ((x % 128 + 128 : Nat) : Int) := by
  have e : (x : Int) % 256 = ((x % 256 : Nat) : Int) := by omega
  have h : ∀ y : Fin 256, (y.val ||| 128 : Nat) = y.val % 128 + 128 := by decide +kernel
  rw [e, show (128 : Int) = ((128 : Nat) : Int) from rfl, u8_or_nat _ _ (by omega) (by decide), h ⟨x % 256, by omega⟩]
  show ((x % 256 % 128 + 128 : Nat) : Int) = _
  rw [Nat.mod_mod_of_dvd x (by decide : 128 ∣ 256)]
set_option maxRecDepth 100000 in
set_option maxHeartbeats 1000000 in
theorem wuint_c (F : Nat → Prop) (g : Nat) (ys : List Nat) (x : Nat) (w : World) (h : Wr F w g ys) (hF : ∀ k, w.heap.size ≤ k → F k) (hx : x < 18446744073709551616) (hl : ys.length ≤ 140737488350000) :
    Calls Tryd.prog 24 #[.pointer (some ⟨g, 0, none⟩), .int .u64 x] w fun e w' => e = .returned (.tuple #[]) ∧ Wr F w' g (ys ++ Pk.vi x) ∧ Fr F w w' := by
  have hH : Hid (Wr F w g ys) := h
  have hFH : Hid (∀ k, w.heap.size ≤ k → F k) := hF
  have hlen : Hid ((Pk.vi x).length ≤ 10) := Pk.vi_len hx
  clear h hF
  go_enter Tryd.func24, Tryd.ntmps24
  go_wp2
  go_loopw [1] (fun sx wr => ∃ (X : Nat) (p : List Nat), sx = .int .u64 (X : Int) ∧ X < 18446744073709551616 ∧ Hid (p ++ Pk.vi X = ys ++ Pk.vi x) ∧ Hid (Wr F wr g p) ∧ Hid (Fr F w wr)) (fun sx _ => (intOf sx).toNat)
  case atStart => exact ⟨x, ys, rfl, hx, rfl, hH, Fr.refl _ _⟩
  case round =>
    obtain ⟨X, p, rfl, hX, hp, hw, hf⟩ := hrel
    obtain ⟨v, hv⟩ := hw.out
    have hvH : Hid (WrV F wr g v p) := hv
    have hc := hv.cell
    have hz := hv.free
    have hgl := hv.lt
    have hpl : Hid (p.length ≤ ys.length + 10) := by
      have h1 := hlen.out
      have h2 := congrArg List.length hp.out
      rw [List.length_append, List.length_append] at h2
      show _ ≤ _; omega
    clear hv hw hlen
    by_cases hb : 128 ≤ X
    · have hb' : (128 : Int) ≤ (X : Int) := by omega
      have hor := or128 X
      have hnext : Hid ((p ++ [X % 128 + 128]) ++ Pk.vi (X / 128) = ys ++ Pk.vi x) := by
        rw [← hp.out, Pk.vi_big hb]; simp [Hid]
      generalize X % 128 + 128 = y at hor hnext
      go_wp2_with (first | (at_builtin; refine appB _ rfl _ _ rfl p y wr.heap.size v rfl rfl (World.ownsRow.alloc hvH.out.own _) (by simp) (by have := hpl.out; omega) ?_) | fail)
      intro v' w2 ho hg hn
      obtain ⟨c2, z2, hv2, hf2⟩ := hvH.out.push (fun k hk => hFH.out k (Nat.le_trans hf.out.size hk)) ho hg hn
      have hf3 : Hid (Fr F w (w2.setCell ⟨g, 0, none⟩ v')) := hf.out.then hf2.out
      obtain ⟨n', ao, cap, rfl, _⟩ := ho.slice
      clear ho hg hn hf2 hf hvH hc hz hgl hor
      go_wp2
      go_roundw
      case rel => exact ⟨X / 128, p ++ [y], by go_num, by omega, hnext, ⟨_, hv2.out⟩, hf3⟩
      case measure => simp [intOf]; omega
    · have hb' : decide ((128 : Int) ≤ (X : Int)) = false := decide_eq_false (by omega)
      have hlast : Hid (p ++ [X] = ys ++ Pk.vi x) := by rw [← hp.out, Pk.vi_small (by omega)]; rfl
      have hX2 : X < 128 := by omega
      have hXm : (X : Int) % 256 = (X : Int) := by omega
      go_wp2_with (first | (at_builtin; refine appB _ rfl _ _ rfl p X wr.heap.size v rfl rfl (World.ownsRow.alloc hvH.out.own _) (by simp) (by have := hpl.out; omega) ?_) | fail)
      intro v' w2 ho hg hn
      obtain ⟨c2, z2, hv2, hf2⟩ := hvH.out.push (fun k hk => hFH.out k (Nat.le_trans hf.out.size hk)) ho hg hn
      have hf3 : Hid (Fr F w (w2.setCell ⟨g, 0, none⟩ v')) := hf.out.then hf2.out
      obtain ⟨n', ao, cap, rfl, _⟩ := ho.slice
      clear ho hg hn hf2 hf hvH hc hz hgl
      go_wp2
      go_end0
      exact ⟨rfl, ⟨_, by rw [← hlast.out]; exact hv2.out⟩, hf3.out⟩
end Go.Proofs.YtmlfichdfeblpaaDoor
