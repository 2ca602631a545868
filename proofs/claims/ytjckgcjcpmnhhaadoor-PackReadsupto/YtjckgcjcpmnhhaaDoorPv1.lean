/-
  The statements' own Values: complexOf, narrowOf, floatsOf, listOf.
-/
import Derived.Test.YtjckgcjcpmnhhaaDoorPr2
import Derived.Deep.RegionWith
import Derived.BigRegion
namespace Go.Proofs.YtjckgcjcpmnhhaaDoor
open Flo Go.RowKit
/-- a Value -/
def vl (k : Int) (u v : Nat) (s : ByteArray) (l : Value) (n : Int) : Value := .agg #[.int .i64 k, .int .u64 (u : Int), .int .u64 (v : Int), .string s, l, .int .i64 n]
set_option maxHeartbeats 1000000 in
theorem lawof_c (b : Nat) (w : World) :
    Calls Tryd.prog 35 #[.int .u64 (b : Int)] w fun e w' => e = .returned (.float .f64 b) ∧ w = w' := by
  have h1 := run_frombits
  go_enter Tryd.func35, Tryd.ntmps35
  go_wp2
  go_ret
  exact ⟨by simp, rfl⟩
set_option maxRecDepth 100000 in
set_option maxHeartbeats 1000000 in
theorem complexOf_c (k n : Int) (u v : Nat) (s : ByteArray) (l : Value) (w : World) (lo : Option Addr) (ln lc : Nat) (hl : l = .slice lo ln lc) :
    Calls Tryd.prog 38 #[vl k u v s l n] w fun e w' => e = .returned (.complex .f64 u v) ∧ Below w.heap.size w w' := by
  subst hl
  unfold vl
  go_enter Tryd.func38, Tryd.ntmps38
  go_wp2
  go_region_with (first | (go_at_call 35; refine (lawof_c _ _).mono ?_; rintro e w' ⟨rfl, rfl⟩) | fail)
  all_goals (
    go_wp2
    go_ret
    exact ⟨rfl, (((Below.refl _ _).alloc (Nat.le_refl _) _).drew)⟩)
set_option maxRecDepth 100000 in
set_option maxHeartbeats 1000000 in
theorem narrowOf_c (k n : Int) (u v : Nat) (s : ByteArray) (l : Value) (w : World) (lo : Option Addr) (ln lc : Nat) (hl : l = .slice lo ln lc) :
    Calls Tryd.prog 41 #[vl k u v s l n] w fun e w' => e = .returned (.complex .f32 (u % 4294967296) (v % 4294967296)) ∧ Below w.heap.size w w' := by
  subst hl
  unfold vl
  have h1 := run_f32of
  have e1 : ((u : Int) % 4294967296).toNat = u % 4294967296 := by omega
  have e2 : ((v : Int) % 4294967296).toNat = v % 4294967296 := by omega
  go_enter Tryd.func41, Tryd.ntmps41
  go_wp2
  go_region
  all_goals (
    go_wp2
    go_ret
    exact ⟨rfl, (((Below.refl _ _).alloc (Nat.le_refl _) _).drew)⟩)
/-- numbers that came in, in a world -/
def SrcN (w : World) (l : Value) (zs : List Nat) : Prop :=
  ∃ ao cap, l = .slice ao zs.length cap ∧ (zs = [] ∨ ∃ q o, ao = some ⟨q, o, none⟩ ∧ ∀ i, i < zs.length → w.cell? ⟨q, o + i, none⟩ = some (.int .u64 (zs.getD i 0 : Nat)))
theorem SrcN.below {w w' : World} {l : Value} {zs : List Nat} (h : SrcN w l zs) (hb : Below w.heap.size w w') : SrcN w' l zs := by
  obtain ⟨ao, cap, rfl, h⟩ := h
  refine ⟨ao, cap, rfl, ?_⟩
  rcases h with h | ⟨q, o, rfl, hc⟩
  · exact .inl h
  · exact .inr ⟨q, o, rfl, fun i hi => (hb.cell (World.block_lt_of_cell? w _ (hc i hi))).trans (hc i hi)⟩
theorem NewU.app {t : TypeId} {w w1 w1' w2 : World} {v v' : Value} {us us' : List Value} (h : NewU t w w1 v us) (h0 : Below w.heap.size w w1) (hb : Below w1.heap.size w1 w1') (ho : OwU t w2 v' us') (hg : w1'.grownBy w2 v.ownBlock) (hn : ∀ b, v'.ownBlock = some b → v.ownBlock = some b ∨ w1'.heap.size ≤ b) : NewU t w w2 v' us' ∧ Below w.heap.size w w2 := by
  have h1 := h0.size
  have h2 := hb.size
  exact ⟨⟨ho, fun b hb' => by
    rcases hn b hb' with h3 | h3
    · exact h.new b h3
    · omega⟩, (h0.trans (hb.mono h1)).grown hg (by omega) h.new⟩
set_option maxRecDepth 100000 in
set_option maxHeartbeats 1000000 in
theorem floatsOf_n (k n : Int) (u v : Nat) (s : ByteArray) (q o m lc : Nat) (zs : List Nat) (w : World) (hm : Hid (zs.length = m)) (hm2 : m ≤ 1048576) (hc : Hid (∀ i, i < zs.length → w.cell? ⟨q, o + i, none⟩ = some (.int .u64 (zs.getD i 0 : Nat)))) (hqw : m = 0 ∨ q < w.heap.size) :
    Calls Tryd.prog 46 #[vl k u v s (.slice (some ⟨q, o, none⟩) m lc) n] w fun e w' => ∃ v', e = .returned v' ∧ NewU 61 w w' v' (fcs zs) ∧ Below w.heap.size w w' := by
  unfold vl
  have hqH : Hid (m = 0 ∨ q < w.heap.size) := hqw
  clear hqw
  go_enter Tryd.func46, Tryd.ntmps46
  go_wp2
  go_loopw [3, 10] (fun so si wr => ∃ i : Nat, si = .int .i64 (i : Int) ∧ i ≤ m ∧ Hid (NewU 61 w wr so (fcs (zs.take i))) ∧ Hid (Below w.heap.size w wr)) (fun _ si _ => m - (intOf si).toNat)
  case atStart =>
    refine ⟨0, rfl, Nat.zero_le _, ⟨?_, fun b hb => ?_⟩, ((Below.refl _ _).alloc (Nat.le_refl _) _).alloc (by simp) _⟩
    · have := World.ownsRow_made (base := 0) (e := 61) (size := 1) (w.alloc (.cells #[.int .i64 k, .int .u64 (u : Int), .int .u64 (v : Int), .string s, .slice (some ⟨q, o, none⟩) m lc, .int .i64 n] 30)) #[] 0 (Nat.zero_le _) (by decide) rfl
      simpa [OwU, fcs] using this
    · cases hb; simp
  case round =>
    obtain ⟨i, rfl, hi, hN, hB⟩ := hrel
    by_cases hlt : i < m
    · have hlt' : (i : Int) < (m : Int) := by omega
      have hiz : i < zs.length := by have := hm.out; omega
      have hcell : wr.cell? ⟨q, o + i, none⟩ = some (.int .u64 (zs.getD i 0 : Nat)) := (hB.out.cell (p := ⟨q, o + i, none⟩) (by have := hqH.out; show q < _; omega)).trans (hc.out i hiz)
      have hnext : Hid (fcs (zs.take i) ++ [.float .f64 (zs.getD i 0)] = fcs (zs.take (i + 1))) := by
        have e : zs.getD i 0 = zs[i] := by simp [List.getD, hiz]
        show _ = _
        unfold fcs
        rw [List.take_succ_eq_append_getElem hiz, List.map_append, e]; rfl
      have hlen : Hid ((fcs (zs.take i)).length + 1 ≤ 1048577) := by show _ ≤ _; rw [fcs_len, List.length_take]; omega
      generalize zs.getD i 0 = z at hcell hnext
      obtain ⟨us, hus⟩ : ∃ us, us = fcs (zs.take i) := ⟨_, rfl⟩
      rw [← hus] at hN hlen hnext
      clear hus
      go_wp2_with (first
        | (go_at_call 35; refine (lawof_c _ _).mono ?_; rintro e w' ⟨rfl, rfl⟩)
        | (at_builtin; refine appU _ rfl _ _ 87 61 (.float .f64 0) 8 rfl Tryd.underlying87 infoF rfl us (.float .f64 z) rfl wr.heap.size u3 rfl rfl (World.ownsRow.alloc hN.out.own _) (by simp) hlen.out (by decide) ?_)
        | fail)
      intro v' w2 ho hg hn
      have hN2 : Hid (NewU 61 w w2 v' (fcs (zs.take (i + 1))) ∧ Below w.heap.size w w2) := by
        rw [← hnext.out]
        exact hN.out.app hB.out ((Below.refl _ _).alloc (Nat.le_refl _) _) ho hg (by simpa using hn)
      clear ho hg hn hN hB hnext hcell
      go_wp2
      go_roundw
      case rel => exact ⟨i + 1, by go_num, by omega, hN2.out.1, hN2.out.2⟩
      case measure => simp [intOf]; omega
    · have hlt' : decide ((i : Int) < (m : Int)) = false := decide_eq_false (by omega)
      have hfin : Hid (fcs (zs.take i) = fcs zs) := by show _ = _; rw [show i = zs.length by have := hm.out; omega, List.take_length]
      go_wp2
      go_ret
      exact ⟨_, rfl, by rw [← hfin.out]; exact hN.out, hB.out⟩
end Go.Proofs.YtjckgcjcpmnhhaaDoor
