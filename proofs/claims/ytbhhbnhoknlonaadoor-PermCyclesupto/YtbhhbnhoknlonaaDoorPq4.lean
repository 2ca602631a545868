/-
  timbremem.SpareInts, KeptInts: a list with marks behind it, and that it is still so.
-/
import Derived.Test.YtbhhbnhoknlonaaDoorSmz
import Derived.Test.YtbhhbnhoknlonaaDoorMk5
import Derived.Laws.AppendOwnNone
import Derived.OwnWalk
namespace Go.Proofs.YtbhhbnhoknlonaaDoor
open Flo Go.RowKit

/-- the marks behind a list -/
def mk7 (j : Nat) : List Int := (List.range j).map fun k => mkv 7 k
theorem mk7_len (j : Nat) : (mk7 j).length = j := by simp [mk7]
theorem mk7_snoc (j : Nat) : mk7 (j + 1) = mk7 j ++ [mkv 7 j] := by simp [mk7, List.range_succ]
theorem iz_app (a b : List Int) : iz (a ++ b) = iz a ++ iz b := by simp [iz]
theorem makeC (w : World) (n : Nat) (hn : n ≤ 17592186043904) :
    ∃ w', (Instr.makeSlice 22 (.int .i64 0) (.int .i64 ((n : Int) + 80))).run Tryd.prog w = .ok (.slice (some ⟨w.heap.size, 0, none⟩) 0 (n + 80)) w' ∧
      Hid (w'.ownsRow w.heap.size 3 1 (.slice (some ⟨w.heap.size, 0, none⟩) 0 (n + 80)) 0 []) ∧ Hid (Below w.heap.size w w') := by
  obtain ⟨i0, hi0, hz0, hz1, hz2⟩ := info_parts infoInt
  obtain ⟨w', h1, h2, h3⟩ := run_make_own (P := Tryd.prog) w w.heap.size 22 3 i0 (.int .i64 0) 1 Tryd.underlying22 hi0 hz0 hz1 .i64 .i64 (n + 80) (by rw [hz2]; omega) (by unfold maxLen; omega) (Nat.le_refl _)
  exact ⟨w', by rw [← h1]; rfl, h2, (Below.refl _ w).grown h3 (Nat.le_refl _) (fun b e => by cases e)⟩
set_option maxHeartbeats 2000000 in
theorem spare_nil (w : World) :
    Calls Tryd.prog 7 #[.slice none 0 0] w fun e w' => ∃ F C, e = .returned (.tuple #[.slice (some ⟨F, 0, none⟩) 0 C, .slice (some ⟨F, 0, none⟩) 80 C]) ∧ w'.ownsRow w.heap.size 3 1 (.slice (some ⟨F, 0, none⟩) 80 C) 80 (iz (mk7 80)) ∧ Below w.heap.size w w' := by
  obtain ⟨i0, hi, hz0, hz1, hz2⟩ := info_parts infoInt
  obtain ⟨w2, hmk, hrow, hb1⟩ := makeC w 0 (by decide)
  go_enter Tryd.func7, Tryd.ntmps7
  have hmk' : (Instr.makeSlice 22 (.int .i64 0) (.int .i64 80)).run Tryd.prog w = .ok (.slice (some ⟨w.heap.size, 0, none⟩) 0 80) w2 := by simpa using hmk
  clear hmk
  have hrow' : w2.ownsRow w.heap.size 3 1 (.slice (some ⟨w.heap.size, 0, none⟩) 0 80) 0 [] := by simpa using hrow.out
  go_wp2_with (at_builtin; refine wpList_append_own_none rfl _ _ 22 rfl w.heap.size 3 i0 1 Tryd.underlying22 hi _ 0 [] rfl hrow' rfl ?_)
  have hown2 : w2.ownsRow w.heap.size 3 1 (.slice (some ⟨w.heap.size, 0, none⟩) 0 80) 0 (iz (mk7 0)) := hrow'
  have hbl2 : Below w.heap.size w w2 := hb1.out
  clear hmk' hrow' hrow hb1
  have hown0 : Hid (w2.ownsRow w.heap.size 3 1 (.slice (some ⟨w.heap.size, 0, none⟩) 0 80) 0 (iz (mk7 0))) := hown2
  have hb2 : Hid (Below w.heap.size w w2) := hbl2
  clear hown2 hbl2
  go_wp2
  go_loopw [4, 5] (fun vf sj wx => ∃ j : Nat, j ≤ 80 ∧ sj = .int .i64 (j : Int) ∧ wx.ownsRow w.heap.size 3 1 vf j (iz (mk7 j)) ∧ Below w.heap.size w wx) (fun _ sj _ => 80 - (intOf sj).toNat)
  case atStart => exact ⟨0, by omega, rfl, hown0.out, hb2.out⟩
  case round =>
    clear hown0 hb2
    obtain ⟨j, hj, rfl, hown, hb⟩ := hrel
    have hsz := hb.size
    by_cases hlt : j < 80
    · have hlt' : (j : Int) < 80 := by omega
      have hsn : Hid (iz (mk7 (j + 1)) = iz (mk7 j) ++ [.int .i64 (mkv 7 j)]) := (by rw [mk7_snoc, iz_app]; rfl : iz (mk7 (j + 1)) = iz (mk7 j) ++ [.int .i64 (mkv 7 j)])
      go_wp2_with fail
      refine (mark_c 7 j _ (by omega) (by omega)).mono ?_
      rintro e w' ⟨rfl, rfl⟩
      go_wp2_with (at_builtin; refine wpList_append_own _ rfl _ _ 22 rfl w.heap.size 3 i0 (.int .i64 0) 1 8 Tryd.underlying22 hi hz0 hz1 hz2 rfl (by decide) _ _ _ rfl (hown.alloc _) ⟨wr.heap.size, 0, none⟩ 1 1 [.int .i64 (mkv 7 j)] rfl rfl ?c1 ?c2 ?c3 ?c4 ?c5 ?_)
      case c1 =>
        intro j u hj
        match j, hj with
        | 0, hj => simp at hj; subst hj; simp [Addr.add]
      case c2 => intro u hu; simp at hu; subst hu; rfl
      case c3 => unfold maxLen; omega
      case c4 => omega
      case c5 => simp; omega
      · intro v' w3 hown' hgrow hnil
        have hbl' : Below w.heap.size w w3 := (hb.alloc hsz _).grown hgrow (by simp; omega) (fun k' hk' => (hown.lt k' hk').1)
        rw [← hsn.out] at hown'
        clear hown hgrow hnil hb
        go_wp2
        go_roundw
        case rel => exact ⟨j + 1, by omega, by go_num, hown', hbl'⟩
        case measure => simp [intOf]; omega
    · have hlt' : decide ((j : Int) < 80) = false := decide_eq_false (by omega)
      have ej : j = 80 := by omega
      subst ej
      obtain ⟨F, C, rfl, hC⟩ : ∃ F C, u4 = .slice (some ⟨F, 0, none⟩) (80) C ∧ 80 ≤ C := by
        rcases hown.2 with ⟨_, h⟩ | ⟨g, c, _, h, _, _, hc, _⟩
        · omega
        · exact ⟨g, c, h, hc⟩
      have hC' : (0 : Int) ≤ (C : Int) := by omega
      have hC0 : (0 : Int) ≤ (0 : Int) := by omega
      have hownH : Hid (wr.ownsRow w.heap.size 3 1 (.slice (some ⟨F, 0, none⟩) (80) C) (80) (iz (mk7 80))) := hown
      have hbH : Hid (Below w.heap.size w wr) := hb
      clear hown hb
      go_wp2
      go_ret2
      exact ⟨F, C, rfl, hownH.out, hbH.out⟩
set_option maxHeartbeats 2000000 in
theorem spare_some (ad : Addr) (cap : Nat) (p : List Int) (w : World) (hc : Hid (∀ i, i < p.length → (ad.add i).block < w.heap.size ∧ w.cell? (ad.add i) = some (.int .i64 (p.getD i 0)))) (hn : p.length ≤ 17592186043904) :
    Calls Tryd.prog 7 #[.slice (some ad) p.length cap] w fun e w' => ∃ F C, e = .returned (.tuple #[.slice (some ⟨F, 0, none⟩) p.length C, .slice (some ⟨F, 0, none⟩) (p.length + 80) C]) ∧ w'.ownsRow w.heap.size 3 1 (.slice (some ⟨F, 0, none⟩) (p.length + 80) C) (p.length + 80) (iz (p ++ mk7 80)) ∧ Below w.heap.size w w' := by
  obtain ⟨i0, hi, hz0, hz1, hz2⟩ := info_parts infoInt
  obtain ⟨w1, hmk, hrow, hb1⟩ := makeC w p.length hn
  go_enter Tryd.func7, Tryd.ntmps7
  go_wp2_with (at_builtin; refine wpList_append_own _ rfl _ _ 22 rfl w.heap.size 3 i0 (.int .i64 0) 1 8 Tryd.underlying22 hi hz0 hz1 hz2 rfl (by decide) _ _ _ rfl hrow.out ad p.length cap (iz p) rfl ?c0 ?c1 ?c2 ?c3 ?c4 ?c5 ?_)
  case c0 => rw [iz_len, Nat.mul_one]
  case c1 =>
    intro j u hj
    have hjl : j < p.length := by
      have := (List.getElem?_eq_some_iff.1 hj).1; rwa [iz_len] at this
    rw [iz_get p j hjl] at hj
    rw [← hj]
    exact (hb1.out.cell (p := ad.add j) (hc.out j hjl).1).trans (hc.out j hjl).2
  case c2 =>
    intro u hu
    unfold iz at hu
    obtain ⟨z, _, rfl⟩ := List.mem_map.1 hu
    rfl
  case c3 => unfold maxLen; omega
  case c4 => omega
  case c5 => exact hb1.out.size
  · intro v2 w2 hown' hgrow hnil
    have hbl2 : Below w.heap.size w w2 := hb1.out.grown hgrow hb1.out.size (fun k' hk' => (hrow.out.lt k' hk').1)
    have hown2 : w2.ownsRow w.heap.size 3 1 v2 (p.length + 0) (iz (p ++ mk7 0)) := by simpa [mk7] using hown'
    clear hown' hgrow hnil hrow hb1 hmk
    have hown0 : Hid (w2.ownsRow w.heap.size 3 1 v2 (p.length + 0) (iz (p ++ mk7 0))) := hown2
    have hb2 : Hid (Below w.heap.size w w2) := hbl2
    clear hown2 hbl2
    go_wp2
    go_loopw [4, 5] (fun vf sj wx => ∃ j : Nat, j ≤ 80 ∧ sj = .int .i64 (j : Int) ∧ wx.ownsRow w.heap.size 3 1 vf (p.length + j) (iz (p ++ mk7 j)) ∧ Below w.heap.size w wx) (fun _ sj _ => 80 - (intOf sj).toNat)
    case atStart => exact ⟨0, by omega, rfl, hown0.out, hb2.out⟩
    case round =>
      clear hown0 hb2
      obtain ⟨j, hj, rfl, hown, hb⟩ := hrel
      have hsz := hb.size
      by_cases hlt : j < 80
      · have hlt' : (j : Int) < 80 := by omega
        have hsn : Hid (iz (p ++ mk7 (j + 1)) = iz (p ++ mk7 j) ++ [.int .i64 (mkv 7 j)]) := (by rw [mk7_snoc, ← List.append_assoc, iz_app (p ++ mk7 j)]; rfl : iz (p ++ mk7 (j + 1)) = iz (p ++ mk7 j) ++ [.int .i64 (mkv 7 j)])
        go_wp2_with fail
        refine (mark_c 7 j _ (by omega) (by omega)).mono ?_
        rintro e w' ⟨rfl, rfl⟩
        go_wp2_with (at_builtin; refine wpList_append_own _ rfl _ _ 22 rfl w.heap.size 3 i0 (.int .i64 0) 1 8 Tryd.underlying22 hi hz0 hz1 hz2 rfl (by decide) _ _ _ rfl (hown.alloc _) ⟨wr.heap.size, 0, none⟩ 1 1 [.int .i64 (mkv 7 j)] rfl rfl ?c1 ?c2 ?c3 ?c4 ?c5 ?_)
        case c1 =>
          intro j u hj
          match j, hj with
          | 0, hj => simp at hj; subst hj; simp [Addr.add]
        case c2 => intro u hu; simp at hu; subst hu; rfl
        case c3 => unfold maxLen; omega
        case c4 => omega
        case c5 => simp; omega
        · intro v' w3 hown' hgrow hnil
          have hbl' : Below w.heap.size w w3 := (hb.alloc hsz _).grown hgrow (by simp; omega) (fun k' hk' => (hown.lt k' hk').1)
          rw [← hsn.out] at hown'
          clear hown hgrow hnil hb
          go_wp2
          go_roundw
          case rel => exact ⟨j + 1, by omega, by go_num, hown', hbl'⟩
          case measure => simp [intOf]; omega
      · have hlt' : decide ((j : Int) < 80) = false := decide_eq_false (by omega)
        have ej : j = 80 := by omega
        subst ej
        obtain ⟨F, C, rfl, hC⟩ : ∃ F C, u4 = .slice (some ⟨F, 0, none⟩) (p.length + 80) C ∧ p.length + 80 ≤ C := by
          rcases hown.2 with ⟨_, h⟩ | ⟨g, c, _, h, _, _, hc, _⟩
          · omega
          · exact ⟨g, c, h, hc⟩
        have hC' : (p.length : Int) ≤ (C : Int) := by omega
        have hC0 : (0 : Int) ≤ (p.length : Int) := by omega
        have hownH : Hid (wr.ownsRow w.heap.size 3 1 (.slice (some ⟨F, 0, none⟩) (p.length + 80) C) (p.length + 80) (iz (p ++ mk7 80))) := hown
        have hbH : Hid (Below w.heap.size w wr) := hb
        clear hown hb
        go_wp2
        go_ret2
        exact ⟨F, C, rfl, hownH.out, hbH.out⟩
/-- a list of ints that came in: nil has no room -/
def InZ (w : World) (v : Value) (p : List Int) : Prop := RdZ w v p ∧ ∀ k c, v = .slice none k c → c = 0
theorem InZ.rd {w : World} {v : Value} {p : List Int} (h : InZ w v p) : RdZ w v p := h.1
theorem InZ.below {w w' : World} {v : Value} {p : List Int} (h : InZ w v p) (hb : Below w.heap.size w w') : InZ w' v p := ⟨h.1.below hb, h.2⟩
theorem add_nat (b off i : Nat) : (⟨b, off, none⟩ : Addr).add i = ⟨b, off + i, none⟩ := by
  unfold Addr.add
  by_cases h : i = 0
  · subst h; simp
  · simp [h]
theorem spare_c (v : Value) (p : List Int) (w : World) (hR : InZ w v p) (hn : p.length ≤ 17592186043904) :
    Calls Tryd.prog 7 #[v] w fun e w' => ∃ F C, e = .returned (.tuple #[.slice (some ⟨F, 0, none⟩) p.length C, .slice (some ⟨F, 0, none⟩) (p.length + 80) C]) ∧ w'.ownsRow w.heap.size 3 1 (.slice (some ⟨F, 0, none⟩) (p.length + 80) C) (p.length + 80) (iz (p ++ mk7 80)) ∧ Below w.heap.size w w' := by
  obtain ⟨⟨ao, cap, rfl, hrd⟩, hnil⟩ := hR
  cases ao with
  | none =>
    obtain rfl : cap = 0 := hnil _ _ rfl
    have hp : p = [] := Classical.byContradiction fun c => by obtain ⟨_, _, h, _⟩ := hrd c; cases h
    subst hp
    simpa using spare_nil w
  | some ad =>
    refine spare_some ad cap p w (fun i hi => ?_) hn
    obtain ⟨b, off, h, hb, hc⟩ := hrd (fun e => by rw [e] at hi; simp at hi)
    cases h
    rw [add_nat]
    exact ⟨hb, hc i hi⟩
/-- the list ahead of its marks -/
theorem RdZ.mine {w : World} {B F C n : Nat} {p M : List Int} (h : w.ownsRow B 3 1 (.slice (some ⟨F, 0, none⟩) n C) n (iz (p ++ M))) : RdZ w (.slice (some ⟨F, 0, none⟩) p.length C) p := by
  refine ⟨_, C, rfl, fun _ => ⟨F, 0, rfl, (h.lt F rfl).2, fun i hi => ?_⟩⟩
  have hl := h.1
  rw [iz_len, Nat.mul_one] at hl
  have hil : i < (p ++ M).length := by simp; omega
  have c := h.cellAt i (by omega)
  rw [iz_get _ i hil] at c
  rw [Nat.zero_add, c]
  congr 2
  simp [List.getD, List.getElem?_append_left hi]
end Go.Proofs.YtbhhbnhoknlonaaDoor
