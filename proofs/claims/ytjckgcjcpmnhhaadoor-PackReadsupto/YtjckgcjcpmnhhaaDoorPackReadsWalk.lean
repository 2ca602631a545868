/-
  The statement PackReads, walked.
-/
import Derived.Test.YtjckgcjcpmnhhaaDoorMvx
import Derived.Test.YtjckgcjcpmnhhaaDoorRd1
import Derived.Test.YtjckgcjcpmnhhaaDoorPkl
import Derived.Deep.RegionWith
import Derived.Deep.RegionHeld3
import Derived.BigRegion
import Derived.Deep.LoopGhost
namespace Go.Proofs.YtjckgcjcpmnhhaaDoor
open Flo Go.RowKit
theorem cell_qt {w W : World} {a : Addr} {v : Value} (h : Qt w W) (hc : w.cell? a = some v) : W.cell? a = some v := (World.cell?_of_block (by rw [h.heap])).trans hc
theorem own_belowR {w w' : World} {v : Value} {ys : List Nat} (h : OwB w v ys) (hb : Below w.heap.size w w') : OwB w' v ys := owns_block h fun b hb' => hb.block b (World.ownsRow.lt h b hb').2
theorem bc_setR (ys : List Nat) (i y : Nat) : bc (ys.set i y) = (bc ys).set i (.int .u8 (y : Int)) := by unfold bc; rw [List.map_set]
theorem ownB_setR {w : World} {g cap n i y : Nat} {ys : List Nat} (hn : n = ys.length) (h : OwB w (.slice (some ⟨g, 0, none⟩) n cap) ys) : OwB (w.setCell ⟨g, i, none⟩ (.int .u8 (y : Int))) (.slice (some ⟨g, 0, none⟩) n cap) (ys.set i y) ∧ w.frozen? ⟨g, i, none⟩ = false := by
  subst hn
  have h1 := (World.ownsRow.stored h i (.int .u8 (y : Int))).1
  refine ⟨?_, World.ownsRow.frozenAt h i⟩
  unfold OwB
  rw [List.length_set, bc_setR]
  exact h1
theorem xor60 (x : Nat) (h : x < 256) : ∃ y : Nat, bits .xor .u8 (x : Int) 60 = (y : Int) ∧ y < 256 := by
  have key : ∀ x : Fin 256, ∃ y : Fin 256, bits .xor .u8 ((x.val : Nat) : Int) 60 = ((y.val : Nat) : Int) := by decide +kernel
  obtain ⟨y, hy⟩ := key ⟨x, h⟩
  exact ⟨y.val, hy, y.isLt⟩
theorem src2 (w : World) : SrcB (w.alloc (.cells #[.int .u8 85, .int .u8 170] 5)) (.slice (some ⟨w.heap.size, 0, none⟩) 2 2) [85, 170] := by
  refine .inr ⟨⟨w.heap.size, 0, none⟩, 2, rfl, fun j u hj => ?_⟩
  match j, hj with
  | 0, hj => simp [bc] at hj; subst hj; simp [Addr.add]
  | 1, hj => simp [bc] at hj; subst hj; simp [Addr.add]
theorem mkS_sz (xs : List Nat) : (mkS xs).size = xs.length := by
  unfold mkS
  show (xs.map UInt8.ofNat).toArray.size = _
  simp
theorem mkS_cat (xs ys : List Nat) : mkS xs ++ mkS ys = mkS (xs ++ ys) := by
  unfold mkS
  apply ByteArray.ext
  simp
set_option maxRecDepth 100000 in
set_option maxHeartbeats 8000000 in
theorem reads_w (ao : Option Addr) (n cap : Nat) (bo : Option Addr) (m capm : Nat) (bs : List Nat) (al : List Addr) (w : World) (hb : SrcB w (.slice ao n cap) bs ∧ ∀ b ∈ bs, b < 256) (hl : bs.length = n) (hn : n ≤ 1048576) (hV : InN w bo m) (hm : m ≤ 1048576) (he : Errs w al) :
    Calls Tryd.prog 4 #[.slice ao n cap, .slice bo m capm] w fun e w' => e = .returned (.bool true) ∧ Below w.heap.size w w' := by
  have hbH : Hid (SrcB w (.slice ao n cap) bs) := hb.1
  have hby : Hid (∀ b ∈ bs, b < 256) := hb.2
  have hlH : Hid (bs.length = n) := hl
  have hVH : Hid (InN w bo m) := hV
  have heH : Hid (Errs w al) := he
  have h5 : Hid (5 ≤ w.heap.size) := by
    have he5 := e5_of he
    have h0 := cell_lt he5.short; have h1 := cell_lt he5.varint; have h2 := cell_lt he5.limit; have h3 := cell_lt he5.tail; have h4 := cell_lt he5.number
    show _ ≤ _
    simp only at h0 h1 h2 h3 h4
    omega
  clear hV he hb hl
  go_enter Tryd.func4, Tryd.ntmps4
  go_wp2_with fail
  refine (plives_c w al (e5_of heH.out)).mono ?_
  rintro e w1 ⟨rfl, hb1⟩
  have hB1 : Hid (Below w.heap.size w w1) := hb1
  have hO1 : Hid (OwB (w1.alloc (.cells #[] 5)) (.slice (some ⟨w1.heap.size, 0, none⟩) 0 0) []) := World.ownsRow_made w1 #[] 0 (Nat.zero_le _) (by decide) rfl
  have hS1 : Hid (SrcB (w1.alloc (.cells #[] 5)) (.slice ao n cap) bs) := (hbH.out.below hb1).below ((Below.refl _ _).alloc (Nat.le_refl _) _)
  clear hb1
  go_wp2_with (first | (at_builtin; refine appY _ rfl _ _ rfl [] bs (.slice (some ⟨w1.heap.size, 0, none⟩) 0 0) (.slice ao n cap) rfl rfl hO1.out hS1.out (by rw [hlH.out, List.length_nil]; omega) ?_) | fail)
  intro v2 w2 ho hgr hn2
  have hO2 : Hid (OwB w2 v2 bs) := ho
  have hB2 : Hid (Below w.heap.size w w2) := (hB1.out.alloc hB1.out.size _).grown hgr (by have h8 := hB1.out.size; simp; omega) fun k hk => by cases hk; exact hB1.out.size
  have hv2 : Hid (∀ b, v2.ownBlock = some b → w.heap.size ≤ b) := fun b hb => by
    rcases hn2 b hb with h8 | h8
    · cases h8; exact hB1.out.size
    · have h9 := hB1.out.size; have h10 : w1.heap.size + 1 ≤ b := by simpa using h8
      omega
  clear ho hgr hn2 hO1 hS1 hB1
  go_wp2_with (first | (at_builtin; refine appY _ rfl _ _ rfl bs [85, 170] v2 (.slice (some ⟨w2.heap.size, 0, none⟩) 2 2) rfl rfl (World.ownsRow.alloc hO2.out _) (src2 w2) (by rw [hlH.out]; simp; omega) ?_) | fail)
  intro v3 w3 ho hgr hn3
  have hO3 : Hid (OwB w3 v3 (bs ++ [85, 170])) := ho
  have hB3 : Hid (Below w.heap.size w w3) := (hB2.out.alloc hB2.out.size _).grown hgr (by have h8 := hB2.out.size; simp; omega) fun k hk => hv2.out k hk
  have hv3 : Hid (∀ b, v3.ownBlock = some b → w.heap.size ≤ b ∧ b < w3.heap.size) := fun b hb => ⟨by
    rcases hn3 b hb with h8 | h8
    · exact hv2.out b h8
    · have h9 := hB2.out.size; have h10 : w2.heap.size + 1 ≤ b := by simpa using h8
      omega, (World.ownsRow.lt ho b hb).2⟩
  clear ho hgr hn3 hO2 hB2 hv2
  obtain ⟨n3, a3, c3, rfl, hn3⟩ := hO3.out.slice
  obtain ⟨q3, hq3, hc3, hcells3⟩ := rowB hO3.out (by simp)
  subst hq3
  have hn3e : Hid (n3 = n + 2) := by show _ = _; rw [hn3.out, List.length_append, hlH.out]; rfl
  have k1 : (n : Int) ≤ (c3 : Int) := by have h8 := hn3e.out; omega
  have k2 : n ≤ c3 := by omega
  have k3 : ¬ c3 = 0 := by have h8 := hn3e.out; omega
  have k6 : (0 : Int) ≤ (n : Int) := by omega
  have hmine : Hid (SrcB w3 (.slice (some ⟨q3, 0, none⟩) n c3) bs) := by
    refine .inr ⟨⟨q3, 0, none⟩, c3, by rw [hlH.out], fun j u hj => ?_⟩
    have hj2 : j < bs.length := by
      have := (List.getElem?_eq_some_iff.1 hj).1
      rw [bc_len] at this; exact this
    have h8 := hcells3 j (by rw [List.length_append]; omega)
    have e1 : (bs ++ [85, 170]).getD j 0 = bs[j] := by simp [List.getD, List.getElem?_append_left hj2, hj2]
    have e2 : u = .int .u8 (bs[j] : Nat) := by
      unfold bc at hj
      rw [List.getElem?_map, List.getElem?_eq_getElem hj2] at hj
      simpa using hj.symm
    rw [e2, ← e1]
    have h9 : (⟨q3, 0, none⟩ : Addr).add j = ⟨q3, j, none⟩ := by rw [addr_add, Nat.zero_add]
    rw [h9]
    exact h8
  have hq3H : Hid (w.heap.size ≤ q3 ∧ q3 < w3.heap.size) := hv3.out q3 rfl
  clear hcells3 hv3 hc3
  go_wp2_with fail
  refine (rread_c (.slice (some ⟨q3, 0, none⟩) n c3) bs w3 hmine.out (by rw [hlH.out]; omega) hby.out).mono ?_
  rintro e w4 ⟨r, rfl, hr, h1, h2⟩
  obtain ⟨R, hR4, hRs⟩ : ∃ R : Nat → Prop, Hid (Rr R w4 r bs 0) ∧ Hid (∀ k, R k → w3.heap.size ≤ k ∧ k < w4.heap.size) := ⟨_, h1, fun k hk => hk⟩
  have hB4 : Hid (Below w.heap.size w w4) := hB3.out.trans (h2.mono hB3.out.size)
  have hO4 : Hid (OwB w4 (.slice (some ⟨q3, 0, none⟩) n3 c3) (bs ++ [85, 170])) := own_belowR hO3.out h2
  have hr5 : Hid (¬ r < 5 ∧ w.heap.size ≤ r ∧ r < w4.heap.size) := by have h8 := hB3.out.size; have h9 := h5.out; exact ⟨by omega, by omega, h1.lt⟩
  have hcf : (convert 26 9 (.slice (some ⟨q3, 0, none⟩) n3 c3)).run Tryd.prog w4 = .ok (.string (mkS (bs ++ [85, 170]))) w4 := conv_src hO4.out.src fun b hb => by
    rcases List.mem_append.1 hb with h8 | h8
    · exact hby.out b h8
    · simp at h8; omega
  have hcb : (convert 26 9 (.slice ao n cap)).run Tryd.prog w4 = .ok (.string (mkS bs)) w4 := conv_src (hbH.out.below hB4.out) hby.out
  have hcat : mkS bs ++ ⟨#[85, 170]⟩ = mkS (bs ++ [85, 170]) := mkS_cat bs [85, 170]
  have hsz : ¬ 9223372036854775807 < (mkS bs).size + 2 := by rw [mkS_sz, hlH.out]; omega
  have hq34 : Hid (q3 < w3.heap.size ∧ w3.heap.size ≤ w4.heap.size) := ⟨hq3H.out.2, h2.size⟩
  have hn3b : n3 ≤ 1048578 := by rw [hn3e.out]; omega
  clear h1 h2 hr hmine hO3 hB3 k1 k2 k3 k6
  go_wp2_with fail
  go_loopg [38] n3 (fun gq sj wl => ∃ (j : Nat) (zs' : List Nat), sj = .int .i64 (j : Int) ∧ gq + j = n3 ∧ Hid (OwB wl (.slice (some ⟨q3, 0, none⟩) n3 c3) zs') ∧ Hid (zs'.length = n3 ∧ ∀ b ∈ zs', b < 256) ∧ Hid (Fr (fun b => b = q3) w4 wl))
  case atStart =>
    refine ⟨0, bs ++ [85, 170], rfl, rfl, hO4, ⟨by rw [List.length_append, hlH.out, hn3e.out]; rfl, fun b hb => ?_⟩, Fr.refl _ _⟩
    rcases List.mem_append.1 hb with h8 | h8
    · exact hby.out b h8
    · simp at h8; omega
  case round =>
    obtain ⟨j, zs', rfl, hj, hOl, hzl, hfl⟩ := hrel
    clear hO4 hcf hcb hcat hsz
    by_cases hlt2 : j < n3
    · have hlt2' : (j : Int) < (n3 : Int) := by omega
      obtain ⟨qa, hqa, hcap, hcells⟩ := rowB hOl.out (fun hh => by have h8 := hzl.out.1; rw [hh, List.length_nil] at h8; omega)
      have hqa' : qa = q3 := by injection hqa with hqa; injection hqa with hqa; exact hqa.symm
      subst hqa'
      have hc := hcells j (by rw [hzl.out.1]; exact hlt2)
      obtain ⟨y, hy, hy2⟩ := xor60 (zs'.getD j 0) (hzl.out.2 _ (getD_in (by rw [hzl.out.1]; exact hlt2) _))
      generalize zs'.getD j 0 = z0 at hc hy
      have hst := ownB_setR (i := j) (y := y) hzl.out.1.symm hOl.out
      have hfz := hst.2
      have hO2 : Hid (OwB (wr.setCell ⟨qa, j, none⟩ (.int .u8 (y : Int))) (.slice (some ⟨qa, 0, none⟩) n3 c3) (zs'.set j y)) := hst.1
      have hz2 : Hid ((zs'.set j y).length = n3 ∧ ∀ b ∈ zs'.set j y, b < 256) := ⟨by rw [List.length_set]; exact hzl.out.1, fun b hb => by
        rcases List.mem_or_eq_of_mem_set hb with h8 | h8
        · exact hzl.out.2 b h8
        · rw [h8]; exact hy2⟩
      clear hst hcells hy2 hqa
      go_wp2_with fail
      go_roundg (gk - 1)
      case measure => omega
      case rel => exact ⟨j + 1, _, by go_num, by omega, hO2, hz2, hfl.out.setCell (p := ⟨qa, j, none⟩) rfl _⟩
    · have hlt2' : decide ((j : Int) < (n3 : Int)) = false := decide_eq_false (by omega)
      have hB6 : Hid (Below w.heap.size w wr) := hfl.out.below hB4.out hB4.out.size fun b _ hb => by have h7 : b = q3 := hb; rw [h7]; exact hq3H.out.1
      have hR6 : Hid (Rr R wr r bs 0) := hR4.out.under hfl.out fun b _ hb hRb => by
        have h7 : b = q3 := hb
        have h8 := (hRs.out b hRb).1; have h9 := hq34.out.1; omega
      have hs46 : Hid (w4.heap.size ≤ wr.heap.size) := hfl.out.size
      have hO1 : Hid (OwB (wr.alloc (.cells #[] 5)) (.slice (some ⟨wr.heap.size, 0, none⟩) 0 0) []) := World.ownsRow_made wr #[] 0 (Nat.zero_le _) (by decide) rfl
      have hS1 : Hid (SrcB (wr.alloc (.cells #[] 5)) (.slice ao n cap) bs) := (hbH.out.below hB6.out).below ((Below.refl _ _).alloc (Nat.le_refl _) _)
      clear hOl hzl hfl hj hR4 hB4
      go_wp2_with (first | (at_builtin; refine appY _ rfl _ _ rfl [] bs (.slice (some ⟨wr.heap.size, 0, none⟩) 0 0) (.slice ao n cap) rfl rfl hO1.out hS1.out (by rw [hlH.out, List.length_nil]; omega) ?_) | fail)
      intro v7 w7 ho hgr hn7
      have hb67 : Hid (Below wr.heap.size wr w7) := ((Below.refl _ _).alloc (Nat.le_refl _) _).grown hgr (by simp) fun k hk => by cases hk; exact Nat.le_refl _
      have hv7 : Hid (∀ b, v7.ownBlock = some b → wr.heap.size ≤ b ∧ b < w7.heap.size) := fun b hb => ⟨by
        rcases hn7 b hb with h8 | h8
        · cases h8; exact Nat.le_refl _
        · have h10 : wr.heap.size + 1 ≤ b := by simpa using h8
          omega, (World.ownsRow.lt ho b hb).2⟩
      have hO7 : Hid (OwB w7 v7 bs) := ho
      clear ho hgr hn7 hO1 hS1
      obtain ⟨w8, hw8⟩ : ∃ w8, Hid (w8 = w7.alloc (.cells #[v7, .int .i64 0] 40)) := ⟨_, rfl⟩
      have hb78 : Hid (Below w7.heap.size w7 w8) := by rw [hw8.out]; exact (Below.refl _ _).alloc (Nat.le_refl _) _
      have hB8 : Hid (Below w.heap.size w w8) := (hB6.out.trans (hb67.out.mono hB6.out.size)).trans (hb78.out.mono (Nat.le_trans hB6.out.size hb67.out.size))
      obtain ⟨T, hT⟩ : ∃ T : Nat → Prop, T = fun b => wr.heap.size ≤ b := ⟨_, rfl⟩
      have hT8 : Hid (Rr T w8 w7.heap.size bs 0) := by
        refine ⟨v7, ?_⟩
        rw [hw8.out, hT]
        exact ⟨by simp, by simp, by simp, own_belowR hO7.out ((Below.refl _ _).alloc (Nat.le_refl _) _), fun e => by have h8 := (hv7.out _ e).2; omega, hb67.out.size, fun b hb => (hv7.out b hb).1, Nat.zero_le _, by rw [hlH.out]; omega, hby.out⟩
      have hR8 : Hid (Rr R w8 r bs 0) := rr_below (rr_below hR6.out hb67.out) hb78.out
      have hap : Hid (∀ k, R k → ¬ T k) := fun k hk ht => by
        rw [hT] at ht
        have h8 := (hRs.out k hk).2; have h9 := hs46.out; have h10 : wr.heap.size ≤ k := ht
        omega
      have hgt : Hid (w.heap.size ≤ w7.heap.size) := Nat.le_trans hB6.out.size hb67.out.size
      obtain ⟨n7, a7, c7, rfl, hn7⟩ := hO7.out.slice
      obtain ⟨t, ht⟩ : ∃ t, t = w7.heap.size := ⟨_, rfl⟩
      have hEall : Hid (∀ W W', Below w.heap.size w W → Fr (fun j => j = r ∨ j = t) W W' → Errs W' al ∧ Below w.heap.size w W') := fun W W' hW hF => by
        have h8 : Below w.heap.size w W' := hF.below hW hW.size fun b _ hb => by
          rcases hb with h7 | h7
          · rw [h7]; exact hr5.out.2.1
          · rw [h7, ht]; exact hgt.out
        exact ⟨heH.out.below h8, h8⟩
      have hlit : Hid (Two R T w8 r t bs 0) := by rw [ht]; exact ⟨hR8.out, hT8.out, hap.out⟩
      clear hR6 hB6 hb67 hv7 hO7 hb78 hT hT8 hR8
      go_upto_region 14 with fail
      rw [← hw8.out, ← ht]
      clear ht hgt hs46 hw8
      go_wp2_with fail
      go_loopg [55] m (fun gk2 si wl => ∃ i p : Nat, si = .int .i64 (i : Int) ∧ gk2 + i = m ∧ Hid (Two R T wl r t bs p) ∧ Hid (Below w.heap.size w wl))
      case atStart => exact ⟨0, 0, rfl, rfl, hlit, hB8⟩
      case round =>
        obtain ⟨i, p, rfl, hi, hTw, hBl⟩ := hrel
        clear hlit hB8
        by_cases hlt : i < m
        · have hlt' : (i : Int) < (m : Int) := by omega
          obtain ⟨q, o, k, nn, u, v, s, lo, ln, lc, rfl, hq, hva, hnn⟩ := hVH.out i hlt
          have hnnH : Hid (nn ≤ 9223372036854775807) := hnn
          have c0 : wr.cell? ⟨q, o + i * 6, none⟩ = _ := (hBl.out.cell (p := ⟨q, o + i * 6, none⟩) hq).trans hva.c0
          have c1 : wr.cell? ⟨q, o + i * 6 + 1, none⟩ = _ := (hBl.out.cell (p := ⟨q, o + i * 6 + 1, none⟩) hq).trans hva.c1
          have c2 : wr.cell? ⟨q, o + i * 6 + 2, none⟩ = _ := (hBl.out.cell (p := ⟨q, o + i * 6 + 2, none⟩) hq).trans hva.c2
          have c3' : wr.cell? ⟨q, o + i * 6 + 3, none⟩ = _ := (hBl.out.cell (p := ⟨q, o + i * 6 + 3, none⟩) hq).trans hva.c3
          have c4 : wr.cell? ⟨q, o + i * 6 + 4, none⟩ = _ := (hBl.out.cell (p := ⟨q, o + i * 6 + 4, none⟩) hq).trans hva.c4
          have c5 : wr.cell? ⟨q, o + i * 6 + 5, none⟩ = _ := (hBl.out.cell (p := ⟨q, o + i * 6 + 5, none⟩) hq).trans hva.c5
          clear hva hq hnn
          obtain ⟨wa, hwa⟩ : ∃ wa, Hid (wa = wr.alloc (.cells #[.int .i64 k, .int .u64 (u : Int), .int .u64 (v : Int), .string s, .slice lo ln lc, .int .i64 nn] 30)) := ⟨_, rfl⟩
          have hba : Hid (Below wr.heap.size wr wa) := by rw [hwa.out]; exact (Below.refl _ _).alloc (Nat.le_refl _) _
          have hbx : Hid (Bx wa wr.heap.size k u v s (.slice lo ln lc) nn) := by rw [hwa.out]; exact box_bx wr k u v s _ nn
          have hBa : Hid (Below w.heap.size w wa) := hBl.out.trans (hba.out.mono hBl.out.size)
          have hTa : Hid (Two R T wa r t bs p) := ⟨rr_below hTw.out.r hba.out, rr_below hTw.out.t hba.out, hTw.out.ap⟩
          have hbc := hbx.out
          have d0 := hbc.c0
          have d1 := hbc.c1
          have d2 := hbc.c2
          have d3 := hbc.c3
          have d4 := hbc.c4
          have d5 := hbc.c5
          clear hbc
          go_upto_region 17 with fail
          rw [← hwa.out]
          clear c0 c1 c2 c3' c4 c5
          go_wp2_with fail
          refine (read_c R T r t p bs al k nn u v s lo ln lc wa hTa.out (fun W hW => (hEall.out wa W hBa.out hW).1) hr5.out.1 hnnH.out).mono ?_
          rintro e wb ⟨rfl, ⟨p', hTb⟩, hfb⟩
          have hTbH : Hid (Two R T wb r t bs p') := hTb
          have hBb : Hid (Below w.heap.size w wb) := (hEall.out wa wb hBa.out hfb).2
          obtain ⟨vt, hvt⟩ := hTb.t
          have ht1 := hvt.c1
          have htl : Hid (t < wb.heap.size) := hvt.lt
          have hpl : Hid (p' ≤ n) := by rw [← hlH.out]; exact hvt.le
          obtain ⟨L, hL⟩ : ∃ L : Nat, L = n - p' := ⟨_, rfl⟩
          have hLi : (n : Int) - (p' : Int) = (L : Int) := by have h8 := hpl.out; omega
          have hwL : IntKind.i64.wrap (L : Int) = (L : Int) := by rw [IntKind.wrap_i64]; omega
          have hLe : Hid (∀ x : Nat, x = bs.length - p' → x = L) := fun x hx => by rw [hx, hlH.out, hL]
          have hneq : ((L : Int) != (L : Int)) = false := by simp
          have hneq2 : ((p' : Int) != (p' : Int)) = false := by simp
          clear hTb hvt hfb d0 d1 d2 d3 d4 d5 hL hTa
          go_wp2_with fail
          refine wp_region_held_drew (S := fun W => Hid (Qt wb W)) (by kernel_rfl) (Qt.drew wb) (fun hHeld => ?_)
          refine wpAnyH_take (i := 0) (oi := { dst := some 63, op := Go.Op.move (Go.Operand.tmp 12), type := 4, pos := "law.go:219", after := #[], guard := none }) (v := .bool true) rfl (by kernel_rfl) (by kernel_rfl) (by kernel_rfl) (fun _ _ _ h => h) (Or.inl ⟨by kernel_rfl, ?_⟩) hHeld ?_
          · intro W hW
            clear hW
            go_simp
          simp only [Act.put, List.setIfInBounds_toArray, List.set_cons_zero, List.set_cons_succ]
          refine wpAnyH_take (i := 1) (oi := { dst := some 64, op := Go.Op.unOp Go.UnOp.not 4 (Go.Operand.tmp 63), type := 4, pos := "law.go:219", after := #[{ on := 0, ground := Go.Ground.data }], guard := none }) (v := .bool false) rfl (by kernel_rfl) (by kernel_rfl) (by kernel_rfl) (fun _ _ _ h => h) (Or.inl ⟨by kernel_rfl, ?_⟩) hHeld ?_
          · intro W hW
            clear hW
            go_simp
          simp only [Act.put, List.setIfInBounds_toArray, List.set_cons_zero, List.set_cons_succ]
          refine wpAnyH_take (i := 2) (oi := { dst := some 65, op := Go.Op.move (Go.Operand.tmp 64), type := 4, pos := "law.go:219", after := #[{ on := 1, ground := Go.Ground.data }], guard := none }) (v := .bool false) rfl (by kernel_rfl) (by kernel_rfl) (by kernel_rfl) (fun _ _ _ h => h) (Or.inl ⟨by kernel_rfl, ?_⟩) hHeld ?_
          · intro W hW
            clear hW
            go_simp
          simp only [Act.put, List.setIfInBounds_toArray, List.set_cons_zero, List.set_cons_succ]
          refine wpAnyH_take (i := 3) (oi := { dst := some 66, op := Go.Op.move (Go.Operand.tmp 7), type := 36, pos := "law.go:219", after := #[{ on := 2, ground := Go.Ground.guard }], guard := some (2, false) }) (v := .pointer (some ⟨r, 0, none⟩)) rfl (by kernel_rfl) (by kernel_rfl) (by kernel_rfl) (fun _ _ _ h => h) (Or.inl ⟨by kernel_rfl, ?_⟩) hHeld ?_
          · intro W hW
            clear hW
            go_simp
          simp only [Act.put, List.setIfInBounds_toArray, List.set_cons_zero, List.set_cons_succ]
          refine wpAnyH_take (i := 5) (oi := { dst := some 68, op := Go.Op.move (Go.Operand.tmp 9), type := 38, pos := "law.go:219", after := #[{ on := 2, ground := Go.Ground.guard }], guard := some (2, false) }) (v := .pointer (some ⟨t, 0, none⟩)) rfl (by kernel_rfl) (by kernel_rfl) (by kernel_rfl) (fun _ _ _ h => h) (Or.inl ⟨by kernel_rfl, ?_⟩) hHeld ?_
          · intro W hW
            clear hW
            go_simp
          simp only [Act.put, List.setIfInBounds_toArray, List.set_cons_zero, List.set_cons_succ]
          refine wpAnyH_take (i := 6) (oi := { dst := some 69, op := Go.Op.nilCheck (Go.Operand.tmp 68), type := 0, pos := "law.go:219", after := #[{ on := 5, ground := Go.Ground.data }, { on := 2, ground := Go.Ground.guard }], guard := some (2, false) }) (v := .pointer (some ⟨t, 0, none⟩)) rfl (by kernel_rfl) (by kernel_rfl) (by kernel_rfl) (fun _ _ _ h => h) (Or.inl ⟨by kernel_rfl, ?_⟩) hHeld ?_
          · intro W hW
            clear hW
            go_simp
          simp only [Act.put, List.setIfInBounds_toArray, List.set_cons_zero, List.set_cons_succ]
          refine wpAnyH_take (i := 7) (oi := { dst := some 70, op := Go.Op.fieldAddr 40 (Go.Operand.tmp 69) 1, type := 0, pos := "law.go:219", after := #[{ on := 6, ground := Go.Ground.data }, { on := 2, ground := Go.Ground.guard }], guard := some (2, false) }) (v := .pointer (some ⟨t, 1, none⟩)) rfl (by kernel_rfl) (by kernel_rfl) (by kernel_rfl) (fun _ _ _ h => h) (Or.inl ⟨by kernel_rfl, ?_⟩) hHeld ?_
          · intro W hW
            clear hW
            go_simp
          simp only [Act.put, List.setIfInBounds_toArray, List.set_cons_zero, List.set_cons_succ]
          refine wpAnyH_take (i := 8) (oi := { dst := some 71, op := Go.Op.load 3 (Go.Operand.tmp 70), type := 3, pos := "law.go:219", after := #[{ on := 7, ground := Go.Ground.data }, { on := 2, ground := Go.Ground.guard }], guard := some (2, false) }) (v := .int .i64 (p' : Int)) rfl (by kernel_rfl) (by kernel_rfl) (by kernel_rfl) (fun _ _ _ h => h) (Or.inl ⟨by kernel_rfl, ?_⟩) hHeld ?_
          · intro W hW
            have c9 := (cell_qt hW.out ht1)
            clear hW
            go_simp
          simp only [Act.put, List.setIfInBounds_toArray, List.set_cons_zero, List.set_cons_succ]
          refine wpAnyH_ready (rs := [4]) (by kernel_rfl) (by simp) ?_
          refine AllReadyH.cons (o := { dst := some 67, op := Go.Op.call { callee := Go.Callee.value (Go.Operand.func 14), args := #[Go.Operand.tmp 66], argTypes := #[36] }, type := 3, pos := "law.go:219", after := #[{ on := 3, ground := Go.Ground.data }, { on := 2, ground := Go.Ground.chain }, { on := 2, ground := Go.Ground.guard }], guard := some (2, false) }) rfl (fun K0 hK0 => ?_) AllReadyH.nil
          rw [if_pos (by kernel_rfl)]
          go_wp2_with fail
          refine (rat_c R r p' bs wb.drew (hTbH.out.r.qt (Qt.drew wb))).mono ?_
          rintro e w' ⟨rfl, rfl⟩
          refine hK0.out _ _ (Qt.drew wb) (fun hHeld => ?_)
          clear hK0 K0
          try simp only [Act.put, List.setIfInBounds_toArray, List.set_cons_zero, List.set_cons_succ]
          refine wpAnyH_take (i := 9) (oi := { dst := some 72, op := Go.Op.binOp Go.BinOp.neq 3 (Go.Operand.tmp 67) (Go.Operand.tmp 71) 3, type := 4, pos := "law.go:219", after := #[{ on := 4, ground := Go.Ground.data }, { on := 8, ground := Go.Ground.data }, { on := 2, ground := Go.Ground.guard }], guard := some (2, false) }) (v := .bool false) rfl (by kernel_rfl) (by kernel_rfl) (by kernel_rfl) (fun _ _ _ h => h) (Or.inl ⟨by kernel_rfl, ?_⟩) hHeld ?_
          · intro W hW
            clear hW
            go_simp
          simp only [Act.put, List.setIfInBounds_toArray, List.set_cons_zero, List.set_cons_succ]
          refine wpAnyH_take (i := 10) (oi := { dst := some 73, op := Go.Op.pick (Go.Operand.tmp 65) (Go.Operand.const (Go.Value.bool true)) (Go.Operand.tmp 72), type := 4, pos := "law.go:219", after := #[{ on := 2, ground := Go.Ground.data }, { on := 9, ground := Go.Ground.data }], guard := none }) (v := .bool false) rfl (by kernel_rfl) (by kernel_rfl) (by kernel_rfl) (fun _ _ _ h => h) (Or.inl ⟨by kernel_rfl, ?_⟩) hHeld ?_
          · intro W hW
            clear hW
            go_simp
          simp only [Act.put, List.setIfInBounds_toArray, List.set_cons_zero, List.set_cons_succ]
          refine wpAnyH_take (i := 11) (oi := { dst := some 74, op := Go.Op.move (Go.Operand.tmp 73), type := 4, pos := "law.go:219", after := #[{ on := 10, ground := Go.Ground.data }, { on := 4, ground := Go.Ground.chain }], guard := none }) (v := .bool false) rfl (by kernel_rfl) (by kernel_rfl) (by kernel_rfl) (fun _ _ _ h => h) (Or.inl ⟨by kernel_rfl, ?_⟩) hHeld ?_
          · intro W hW
            clear hW
            go_simp
          simp only [Act.put, List.setIfInBounds_toArray, List.set_cons_zero, List.set_cons_succ]
          refine wpAnyH_take (i := 12) (oi := { dst := some 75, op := Go.Op.move (Go.Operand.tmp 7), type := 36, pos := "law.go:219", after := #[{ on := 11, ground := Go.Ground.guard }], guard := some (11, false) }) (v := .pointer (some ⟨r, 0, none⟩)) rfl (by kernel_rfl) (by kernel_rfl) (by kernel_rfl) (fun _ _ _ h => h) (Or.inl ⟨by kernel_rfl, ?_⟩) hHeld ?_
          · intro W hW
            clear hW
            go_simp
          simp only [Act.put, List.setIfInBounds_toArray, List.set_cons_zero, List.set_cons_succ]
          refine wpAnyH_take (i := 14) (oi := { dst := some 77, op := Go.Op.move (Go.Operand.tmp 0), type := 26, pos := "law.go:219", after := #[{ on := 11, ground := Go.Ground.guard }], guard := some (11, false) }) (v := .slice ao n cap) rfl (by kernel_rfl) (by kernel_rfl) (by kernel_rfl) (fun _ _ _ h => h) (Or.inl ⟨by kernel_rfl, ?_⟩) hHeld ?_
          · intro W hW
            clear hW
            go_simp
          simp only [Act.put, List.setIfInBounds_toArray, List.set_cons_zero, List.set_cons_succ]
          refine wpAnyH_take (i := 15) (oi := { dst := some 78, op := Go.Op.call { callee := Go.Callee.builtin Go.Builtin.len, args := #[Go.Operand.tmp 77], argTypes := #[26] }, type := 3, pos := "law.go:219", after := #[{ on := 14, ground := Go.Ground.data }, { on := 11, ground := Go.Ground.guard }], guard := some (11, false) }) (v := .int .i64 (n : Int)) rfl (by kernel_rfl) (by kernel_rfl) (by kernel_rfl) (fun _ _ _ h => h) (Or.inl ⟨by kernel_rfl, ?_⟩) hHeld ?_
          · intro W hW
            clear hW
            go_simp
          simp only [Act.put, List.setIfInBounds_toArray, List.set_cons_zero, List.set_cons_succ]
          refine wpAnyH_take (i := 16) (oi := { dst := some 79, op := Go.Op.move (Go.Operand.tmp 9), type := 38, pos := "law.go:219", after := #[{ on := 11, ground := Go.Ground.guard }], guard := some (11, false) }) (v := .pointer (some ⟨t, 0, none⟩)) rfl (by kernel_rfl) (by kernel_rfl) (by kernel_rfl) (fun _ _ _ h => h) (Or.inl ⟨by kernel_rfl, ?_⟩) hHeld ?_
          · intro W hW
            clear hW
            go_simp
          simp only [Act.put, List.setIfInBounds_toArray, List.set_cons_zero, List.set_cons_succ]
          refine wpAnyH_take (i := 17) (oi := { dst := some 80, op := Go.Op.nilCheck (Go.Operand.tmp 79), type := 0, pos := "law.go:219", after := #[{ on := 16, ground := Go.Ground.data }, { on := 11, ground := Go.Ground.guard }], guard := some (11, false) }) (v := .pointer (some ⟨t, 0, none⟩)) rfl (by kernel_rfl) (by kernel_rfl) (by kernel_rfl) (fun _ _ _ h => h) (Or.inl ⟨by kernel_rfl, ?_⟩) hHeld ?_
          · intro W hW
            clear hW
            go_simp
          simp only [Act.put, List.setIfInBounds_toArray, List.set_cons_zero, List.set_cons_succ]
          refine wpAnyH_take (i := 18) (oi := { dst := some 81, op := Go.Op.fieldAddr 40 (Go.Operand.tmp 80) 1, type := 0, pos := "law.go:219", after := #[{ on := 17, ground := Go.Ground.data }, { on := 11, ground := Go.Ground.guard }], guard := some (11, false) }) (v := .pointer (some ⟨t, 1, none⟩)) rfl (by kernel_rfl) (by kernel_rfl) (by kernel_rfl) (fun _ _ _ h => h) (Or.inl ⟨by kernel_rfl, ?_⟩) hHeld ?_
          · intro W hW
            clear hW
            go_simp
          simp only [Act.put, List.setIfInBounds_toArray, List.set_cons_zero, List.set_cons_succ]
          refine wpAnyH_take (i := 19) (oi := { dst := some 82, op := Go.Op.load 3 (Go.Operand.tmp 81), type := 3, pos := "law.go:219", after := #[{ on := 18, ground := Go.Ground.data }, { on := 11, ground := Go.Ground.guard }], guard := some (11, false) }) (v := .int .i64 (p' : Int)) rfl (by kernel_rfl) (by kernel_rfl) (by kernel_rfl) (fun _ _ _ h => h) (Or.inl ⟨by kernel_rfl, ?_⟩) hHeld ?_
          · intro W hW
            have c9 := (cell_qt hW.out ht1)
            clear hW
            go_simp
          simp only [Act.put, List.setIfInBounds_toArray, List.set_cons_zero, List.set_cons_succ]
          refine wpAnyH_take (i := 20) (oi := { dst := some 83, op := Go.Op.binOp Go.BinOp.sub 3 (Go.Operand.tmp 78) (Go.Operand.tmp 82) 3, type := 3, pos := "law.go:219", after := #[{ on := 15, ground := Go.Ground.data }, { on := 19, ground := Go.Ground.data }, { on := 11, ground := Go.Ground.guard }], guard := some (11, false) }) (v := .int .i64 (L : Int)) rfl (by kernel_rfl) (by kernel_rfl) (by kernel_rfl) (fun _ _ _ h => h) (Or.inl ⟨by kernel_rfl, ?_⟩) hHeld ?_
          · intro W hW
            clear hW
            go_simp
          simp only [Act.put, List.setIfInBounds_toArray, List.set_cons_zero, List.set_cons_succ]
          refine wpAnyH_ready (rs := [13]) (by kernel_rfl) (by simp) ?_
          refine AllReadyH.cons (o := { dst := some 76, op := Go.Op.call { callee := Go.Callee.value (Go.Operand.func 15), args := #[Go.Operand.tmp 75], argTypes := #[36] }, type := 3, pos := "law.go:219", after := #[{ on := 12, ground := Go.Ground.data }, { on := 11, ground := Go.Ground.chain }, { on := 11, ground := Go.Ground.guard }], guard := some (11, false) }) rfl (fun K0 hK0 => ?_) AllReadyH.nil
          rw [if_pos (by kernel_rfl)]
          go_wp2_with fail
          refine (rleft_c R r p' bs wb.drew (hTbH.out.r.qt (Qt.drew wb))).mono ?_
          rintro e wd ⟨m0, rfl, hm0, hqd⟩
          obtain rfl : L = m0 := (hLe.out m0 hm0.out).symm
          have hqdH : Hid (Qt wb wd) := (Qt.drew wb).trans hqd
          clear hqd
          refine hK0.out _ _ hqdH (fun hHeld => ?_)
          clear hK0 K0
          try simp only [Act.put, List.setIfInBounds_toArray, List.set_cons_zero, List.set_cons_succ]
          refine wpAnyH_take (i := 21) (oi := { dst := some 84, op := Go.Op.binOp Go.BinOp.neq 3 (Go.Operand.tmp 76) (Go.Operand.tmp 83) 3, type := 4, pos := "law.go:219", after := #[{ on := 13, ground := Go.Ground.data }, { on := 20, ground := Go.Ground.data }, { on := 11, ground := Go.Ground.guard }], guard := some (11, false) }) (v := .bool false) rfl (by kernel_rfl) (by kernel_rfl) (by kernel_rfl) (fun _ _ _ h => h) (Or.inl ⟨by kernel_rfl, ?_⟩) hHeld ?_
          · intro W hW
            clear hW
            go_simp
          simp only [Act.put, List.setIfInBounds_toArray, List.set_cons_zero, List.set_cons_succ]
          refine wpAnyH_take (i := 22) (oi := { dst := some 85, op := Go.Op.pick (Go.Operand.tmp 74) (Go.Operand.const (Go.Value.bool true)) (Go.Operand.tmp 84), type := 4, pos := "law.go:219", after := #[{ on := 11, ground := Go.Ground.data }, { on := 21, ground := Go.Ground.data }], guard := none }) (v := .bool false) rfl (by kernel_rfl) (by kernel_rfl) (by kernel_rfl) (fun _ _ _ h => h) (Or.inl ⟨by kernel_rfl, ?_⟩) hHeld ?_
          · intro W hW
            clear hW
            go_simp
          simp only [Act.put, List.setIfInBounds_toArray, List.set_cons_zero, List.set_cons_succ]
          refine wpAnyH_done (by kernel_rfl) ?_ _
          go_wp2_with fail
          go_roundg (gk - 1)
          case measure => omega
          case rel => exact ⟨i + 1, p', by go_num, by omega, ⟨hTbH.out.r.qt hqdH.out, hTbH.out.t.qt hqdH.out, hTbH.out.ap⟩, hBb.out.trans (hqdH.out.below _)⟩
        · have hlt' : decide ((i : Int) < (m : Int)) = false := decide_eq_false (by omega)
          have hEr : Hid (Errs wr al) := heH.out.below hBl.out
          have hnum : Hid (∀ W, Errs W al → Calls Tryd.prog 16 #[dnv al p bs.length] W fun e w' => e = .returned (.int .i64 (dnn p bs.length : Nat)) ∧ Below W.heap.size W w') := fun W hW => by
            by_cases hp : p < bs.length
            · have e1 : dnv al p bs.length = ek al 3 := if_pos hp
              have e2 : dnn p bs.length = 4 := if_pos hp
              rw [e1, e2]
              exact num_err al 3 (by decide) W hW
            · have e1 : dnv al p bs.length = .nilIface := if_neg hp
              have e2 : dnn p bs.length = 0 := if_neg hp
              rw [e1, e2]
              exact (num_nil W).mono fun _ _ h => ⟨h.1, by rw [← h.2]; exact Below.refl _ _⟩
          go_wp2_with fail
          refine (rdone_c R r p bs al wr hTw.out.r (e5_of hEr.out)).mono ?_
          rintro e wd ⟨rfl, hqd⟩
          have hqdH : Hid (Qt wr wd) := hqd
          clear hqd
          go_wp2_with fail
          refine (hnum.out wd (hEr.out.below (hqdH.out.below _))).mono ?_
          rintro e we ⟨rfl, hbe⟩
          have hbeH : Hid (Below wd.heap.size wd we) := hbe
          clear hbe
          go_wp2_with fail
          refine (tdone_c T t p bs we (rr_below (hTw.out.t.qt hqdH.out) hbeH.out)).mono ?_
          rintro e wf ⟨rfl, hqf⟩
          have hqfH : Hid (Qt we wf) := hqf
          clear hqf
          go_wp2
          go_ret
          exact ⟨by simp, ((hBl.out.trans (hqdH.out.below _)).trans (hbeH.out.mono (by rw [hqdH.out.heap]; exact hBl.out.size))).trans (hqfH.out.below _)⟩
end Go.Proofs.YtjckgcjcpmnhhaaDoor
