/-
  The statements' own Values, lists that may be empty; 'write' at lists.
-/
import Derived.Test.YtjckgcjcpmnhhaaDoorPw3
import Derived.Test.YtjckgcjcpmnhhaaDoorNum
namespace Go.Proofs.YtjckgcjcpmnhhaaDoor
open Flo Go.RowKit
set_option maxRecDepth 100000 in
set_option maxHeartbeats 1000000 in
theorem floatsOf_0 (k n : Int) (u v : Nat) (s : ByteArray) (ao : Option Addr) (lc : Nat) (w : World) :
    Calls Tryd.prog 46 #[vl k u v s (.slice ao 0 lc) n] w fun e w' => ∃ v', e = .returned v' ∧ NewU 61 w w' v' [] ∧ Below w.heap.size w w' := by
  unfold vl
  have hN : Hid (NewU 61 w ((w.alloc (.cells #[.int .i64 k, .int .u64 (u : Int), .int .u64 (v : Int), .string s, .slice ao 0 lc, .int .i64 n] 30)).alloc (.cells #[] 61)) (.slice (some ⟨w.heap.size + 1, 0, none⟩) 0 0) []) := ⟨by
    have := World.ownsRow_made (base := 0) (e := 61) (size := 1) (w.alloc (.cells #[.int .i64 k, .int .u64 (u : Int), .int .u64 (v : Int), .string s, .slice ao 0 lc, .int .i64 n] 30)) #[] 0 (Nat.zero_le _) (by decide) rfl
    simpa [OwU] using this, fun b hb => by cases hb; simp⟩
  go_enter Tryd.func46, Tryd.ntmps46
  go_wp2
  refine wp_loop_rounds 1 ?_
  rw [rounds_succ]
  go_wp2
  go_ret
  exact ⟨_, rfl, by simpa using hN.out, ((Below.refl _ _).alloc (Nat.le_refl _) _).alloc (by simp) _⟩
set_option maxRecDepth 100000 in
set_option maxHeartbeats 1000000 in
theorem listOf_0 (k n : Int) (u v : Nat) (s : ByteArray) (ao : Option Addr) (lc : Nat) (w : World) :
    Calls Tryd.prog 22 #[vl k u v s (.slice ao 0 lc) n] w fun e w' => ∃ v', e = .returned v' ∧ NewU 54 w w' v' [] ∧ Below w.heap.size w w' := by
  unfold vl
  have hN : Hid (NewU 54 w ((w.alloc (.cells #[.int .i64 k, .int .u64 (u : Int), .int .u64 (v : Int), .string s, .slice ao 0 lc, .int .i64 n] 30)).alloc (.cells #[] 54)) (.slice (some ⟨w.heap.size + 1, 0, none⟩) 0 0) []) := ⟨by
    have := World.ownsRow_made (base := 0) (e := 54) (size := 1) (w.alloc (.cells #[.int .i64 k, .int .u64 (u : Int), .int .u64 (v : Int), .string s, .slice ao 0 lc, .int .i64 n] 30)) #[] 0 (Nat.zero_le _) (by decide) rfl
    simpa [OwU] using this, fun b hb => by cases hb; simp⟩
  go_enter Tryd.func22, Tryd.ntmps22
  go_wp2
  refine wp_loop_rounds 1 ?_
  rw [rounds_succ]
  go_wp2
  go_ret
  exact ⟨_, rfl, by simpa using hN.out, ((Below.refl _ _).alloc (Nat.le_refl _) _).alloc (by simp) _⟩
theorem floatsOf_c (k n : Int) (u v : Nat) (s : ByteArray) (l : Value) (zs : List Nat) (w : World) (hs : SrcN w l zs) (hz : zs.length ≤ 1048576) :
    Calls Tryd.prog 46 #[vl k u v s l n] w fun e w' => ∃ v', e = .returned v' ∧ NewU 61 w w' v' (fcs zs) ∧ Below w.heap.size w w' := by
  obtain ⟨ao, cap, rfl, hs⟩ := hs
  by_cases h0 : zs = []
  · subst h0; exact floatsOf_0 k n u v s ao cap w
  · rcases hs with hs | ⟨q, o, rfl, hc⟩
    · exact absurd hs h0
    · exact floatsOf_n k n u v s q o zs.length cap zs w rfl hz hc (.inr (World.block_lt_of_cell? w _ (hc 0 (List.length_pos_iff.2 h0))))
theorem listOf_c (k n : Int) (u v : Nat) (s : ByteArray) (l : Value) (zs : List Nat) (w : World) (hs : SrcN w l zs) (hz : zs.length ≤ 1048576) :
    Calls Tryd.prog 22 #[vl k u v s l n] w fun e w' => ∃ v', e = .returned v' ∧ NewU 54 w w' v' (ccs (pri zs (zs.length / 2))) ∧ Below w.heap.size w w' := by
  obtain ⟨ao, cap, rfl, hs⟩ := hs
  by_cases h0 : zs = []
  · subst h0; exact listOf_0 k n u v s ao cap w
  · rcases hs with hs | ⟨q, o, rfl, hc⟩
    · exact absurd hs h0
    · exact listOf_n k n u v s q o zs.length cap zs w rfl (by omega) hc (.inr (World.block_lt_of_cell? w _ (hc 0 (List.length_pos_iff.2 h0))))
theorem pri_bd {zs : List Nat} (hz : ∀ z ∈ zs, z < 18446744073709551616) (i : Nat) (hi : 2 * i ≤ zs.length) : ∀ z ∈ pri zs i, z.1 < 18446744073709551616 ∧ z.2 < 18446744073709551616 := by
  intro z h
  obtain ⟨j, hj, rfl⟩ := List.mem_map.1 h
  have := List.mem_range.1 hj
  exact ⟨hz _ (getD_in (by omega) _), hz _ (getD_in (by omega) _)⟩
/-- the blocks that the Writer may touch behind what was made -/
def Fy (F : Nat → Prop) (w wc : World) : Nat → Prop := fun k => (F k ∧ k < w.heap.size) ∨ wc.heap.size ≤ k
section
variable {F : Nat → Prop} {w w1 wa wb wc wd : World} {g : Nat} {ys zb : List Nat} {v' : Value}
theorem wr_fy (h : Wr F w g ys) (hb : Below w.heap.size w wc) : Wr (Fy F w wc) wc g ys :=
  (h.to fun k hk hf => (.inl ⟨hf, hk⟩ : Fy F w wc k)).under (Fr.of_below (S := fun _ => False) hb fun j hj hj2 => by omega) fun _ _ hh => hh.elim
theorem wrO_of2 (hab : Below w.heap.size w wa) (hN : NewB wa wb v' zb) (hbc : Below wb.heap.size wb wc) (h2 : Wr (Fy F w wc) wd g (ys ++ zb)) (h3 : Fr (Fy F w wc) wc wd) : WrO F w wd g ys zb v' := by
  have s1 := hab.size
  have s2 := hN.below.size
  have s3 := hbc.size
  have hlt : ∀ b, v'.ownBlock = some b → wa.heap.size ≤ b ∧ b < wb.heap.size := fun b hb => ⟨hN.new b hb, (World.ownsRow.lt hN.own b hb).2⟩
  have hnf : ∀ b, v'.ownBlock = some b → ¬ Fy F w wc b := fun b hb hf => by
    have := hlt b hb
    rcases hf with h5 | h5
    · have := h5.2; omega
    · omega
  have hwc : Below w.heap.size w wc := (hab.trans (hN.below.mono s1)).trans (hbc.mono (by omega))
  refine ⟨⟨Fy F w wc, h2, fun k hk => ?_, hnf⟩, ?_, ?_, fun b hb => ?_⟩
  · rcases hk with h5 | h5
    · exact .inl h5.1
    · exact .inr (by omega)
  · refine (Fr.of_below (S := F) hwc fun j hj hj2 => by omega).trans h3 fun k hk => ?_
    rcases hk with h5 | h5
    · exact .inl h5.1
    · exact .inr (by omega)
  · have h4 : OwB wc v' zb := owns_block hN.own fun b hb => hbc.block b (hlt b hb).2
    exact Fr.owns h3 h4 hnf
  · have := hlt b hb; omega
end
set_option maxRecDepth 100000 in
set_option maxHeartbeats 4000000 in
theorem write_6 (F : Nat → Prop) (g : Nat) (ys : List Nat) (n : Int) (u v : Nat) (s : ByteArray) (l : Value) (zs : List Nat) (w : World) (h : Wr F w g ys) (hl : ys.length ≤ 140737400000000) (hs : SrcN w l zs) (hz : zs.length ≤ 1048576) (hzb : ∀ z ∈ zs, z < 18446744073709551616) :
    Calls Tryd.prog 9 #[.pointer (some ⟨g, 0, none⟩), vl 6 u v s l n] w fun e w' => ∃ v', e = .returned (.tuple #[v', .bool true]) ∧ WrO F w w' g ys (Pk.vi (pri zs (zs.length / 2)).length ++ cbs (pri zs (zs.length / 2))) v' := by
  obtain ⟨xs, hxs⟩ : ∃ xs, xs = (pri zs (zs.length / 2)) := ⟨_, rfl⟩
  have hxl : Hid (xs.length ≤ 1048576) := by show _ ≤ _; rw [hxs]; rw [pri_len]; omega
  have hxb : Hid (∀ z ∈ xs, z.1 < 18446744073709551616 ∧ z.2 < 18446744073709551616) := by rw [hxs]; exact pri_bd hzb _ (by omega)
  have hof : ∀ W, SrcN W l zs → Calls Tryd.prog 22 #[vl 6 u v s l n] W fun e w' => ∃ v', e = .returned v' ∧ NewU 54 W w' v' (ccs xs) ∧ Below W.heap.size W w' := by
    intro W hW; rw [hxs]; exact listOf_c 6 n u v s l zs W hW hz
  rw [← hxs]
  have hofH : Hid (∀ W, SrcN W l zs → Calls Tryd.prog 22 #[vl 6 u v s l n] W fun e w' => ∃ v', e = .returned v' ∧ NewU 54 W w' v' (ccs xs) ∧ Below W.heap.size W w') := hof
  have hsH : Hid (SrcN w l zs) := hs
  clear hxs hof hz hzb
  obtain ⟨lo, ln, lc, rfl⟩ : ∃ lo ln lc, l = .slice lo ln lc := by obtain ⟨a, c, rfl, _⟩ := hs; exact ⟨_, _, _, rfl⟩
  clear hs
  unfold vl
  obtain ⟨w1, hw1⟩ : ∃ w1, Hid (w1 = w.alloc (.cells #[.int .i64 6, .int .u64 (u : Int), .int .u64 (v : Int), .string s, .slice lo ln lc, .int .i64 n] 30)) := ⟨_, rfl⟩
  have hbx : Hid (Bx w1 w.heap.size 6 u v s (.slice lo ln lc) n) := by rw [hw1.out]; exact box_bx w 6 u v s _ n
  have hB1 : Hid (Below w.heap.size w w1 ∧ w1.heap.size = w.heap.size + 1) := by rw [hw1.out]; exact ⟨(Below.refl _ _).alloc (Nat.le_refl _) _, by simp⟩
  have hs1 : Hid (SrcN w1 (.slice lo ln lc) zs) := hsH.out.below hB1.out.1
  have hWH : Hid (Wr F w g ys) := h
  clear h
  go_enter Tryd.func9, Tryd.ntmps9
  go_wp2_with fail
  rw [← hw1.out]
  refine (hofH.out w1 hs1.out).mono ?_
  rintro e wa ⟨va, rfl, hNa, hba⟩
  have hSa : Hid (SrcL (fun _ => False) wa va (ccs xs)) := hNa.srcL fun _ hh => hh.elim
  have hBa : Hid (Below w1.heap.size w1 wa) := hba
  clear hNa hba
  go_wp2_with fail
  refine (plist_c (fun _ => False) xs va wa hSa.out hxl.out hxb.out).mono ?_
  rintro e wb ⟨vb, rfl, hNb⟩
  have hNH : Hid (NewB wa wb vb (Pk.vi xs.length ++ cbs xs)) := hNb
  have hBb : Hid (Below w1.heap.size w1 wb) := hBa.out.trans (hNb.below.mono hBa.out.size)
  have hs2 : Hid (SrcN wb (.slice lo ln lc) zs) := hs1.out.below hBb.out
  have hb2 : Bx wb w.heap.size 6 u v s (.slice lo ln lc) n := hbx.out.under (Fr.of_below (S := fun _ => False) hBb.out fun j hj hj2 => by omega) id
  have c0 := hb2.c0
  have c1 := hb2.c1
  have c2 := hb2.c2
  have c3 := hb2.c3
  have c4 := hb2.c4
  have c5 := hb2.c5
  clear hb2 hNb
  go_wp2_with fail
  refine (hofH.out wb hs2.out).mono ?_
  rintro e wc ⟨vc, rfl, hNc, hbc⟩
  have hBc : Hid (Below wb.heap.size wb wc) := hbc
  have hwc : Hid (Below w.heap.size w wc) := (hB1.out.1.trans (hBb.out.mono hB1.out.1.size)).trans (hbc.mono (Nat.le_trans hB1.out.1.size hBb.out.size))
  have hSc : Hid (SrcL (Fy F w wc) wc vc (ccs xs)) := hNc.srcL fun k hk => by
    rcases hk with h5 | h5
    · exact .inl (by have := h5.2; have := hB1.out.1.size; have := hBb.out.size; omega)
    · exact .inr h5
  have hWc : Hid (Wr (Fy F w wc) wc g ys) := wr_fy hWH.out hwc.out
  have hFc : Hid (∀ j, wc.heap.size ≤ j → Fy F w wc j) := fun j hj => .inr hj
  clear hNc hbc c0 c1 c2 c3 c4 c5
  go_wp2_with fail
  refine (wlist_c (Fy F w wc) g ys xs vc wc hWc.out hFc.out (by omega) hSc.out hxl.out hxb.out).mono ?_
  rintro e wd ⟨rfl, h2, h3⟩
  have h2H : Hid (Wr (Fy F w wc) wd g (ys ++ (Pk.vi xs.length ++ cbs xs))) := h2
  have h3H : Hid (Fr (Fy F w wc) wc wd) := h3
  clear h2 h3
  go_wp2_with fail
  refine (num_nil wd).mono ?_
  rintro e w' ⟨rfl, rfl⟩
  go_wp2
  go_ret2
  exact ⟨_, rfl, wrO_of2 (hB1.out.1.trans (hBa.out.mono hB1.out.1.size)) hNH.out hBc.out h2H.out h3H.out⟩
set_option maxRecDepth 100000 in
set_option maxHeartbeats 4000000 in
theorem write_7 (F : Nat → Prop) (g : Nat) (ys : List Nat) (n : Int) (u v : Nat) (s : ByteArray) (l : Value) (zs : List Nat) (w : World) (h : Wr F w g ys) (hl : ys.length ≤ 140737400000000) (hs : SrcN w l zs) (hz : zs.length ≤ 1048576) (hzb : ∀ z ∈ zs, z < 18446744073709551616) :
    Calls Tryd.prog 9 #[.pointer (some ⟨g, 0, none⟩), vl 7 u v s l n] w fun e w' => ∃ v', e = .returned (.tuple #[v', .bool true]) ∧ WrO F w w' g ys (Pk.vi zs.length ++ fbs zs) v' := by
  obtain ⟨xs, hxs⟩ : ∃ xs, xs = zs := ⟨_, rfl⟩
  have hxl : Hid (xs.length ≤ 1048576) := by show _ ≤ _; rw [hxs]; exact hz
  have hxb : Hid (∀ z ∈ xs, z < 18446744073709551616) := by rw [hxs]; exact hzb
  have hof : ∀ W, SrcN W l zs → Calls Tryd.prog 46 #[vl 7 u v s l n] W fun e w' => ∃ v', e = .returned v' ∧ NewU 61 W w' v' (fcs xs) ∧ Below W.heap.size W w' := by
    intro W hW; rw [hxs]; exact floatsOf_c 7 n u v s l zs W hW hz
  rw [← hxs]
  have hofH : Hid (∀ W, SrcN W l zs → Calls Tryd.prog 46 #[vl 7 u v s l n] W fun e w' => ∃ v', e = .returned v' ∧ NewU 61 W w' v' (fcs xs) ∧ Below W.heap.size W w') := hof
  have hsH : Hid (SrcN w l zs) := hs
  clear hxs hof hz hzb
  obtain ⟨lo, ln, lc, rfl⟩ : ∃ lo ln lc, l = .slice lo ln lc := by obtain ⟨a, c, rfl, _⟩ := hs; exact ⟨_, _, _, rfl⟩
  clear hs
  unfold vl
  obtain ⟨w1, hw1⟩ : ∃ w1, Hid (w1 = w.alloc (.cells #[.int .i64 7, .int .u64 (u : Int), .int .u64 (v : Int), .string s, .slice lo ln lc, .int .i64 n] 30)) := ⟨_, rfl⟩
  have hbx : Hid (Bx w1 w.heap.size 7 u v s (.slice lo ln lc) n) := by rw [hw1.out]; exact box_bx w 7 u v s _ n
  have hB1 : Hid (Below w.heap.size w w1 ∧ w1.heap.size = w.heap.size + 1) := by rw [hw1.out]; exact ⟨(Below.refl _ _).alloc (Nat.le_refl _) _, by simp⟩
  have hs1 : Hid (SrcN w1 (.slice lo ln lc) zs) := hsH.out.below hB1.out.1
  have hWH : Hid (Wr F w g ys) := h
  clear h
  go_enter Tryd.func9, Tryd.ntmps9
  go_wp2_with fail
  rw [← hw1.out]
  refine (hofH.out w1 hs1.out).mono ?_
  rintro e wa ⟨va, rfl, hNa, hba⟩
  have hSa : Hid (SrcL (fun _ => False) wa va (fcs xs)) := hNa.srcL fun _ hh => hh.elim
  have hBa : Hid (Below w1.heap.size w1 wa) := hba
  clear hNa hba
  go_wp2_with fail
  refine (pfloats_c (fun _ => False) xs va wa hSa.out hxl.out hxb.out).mono ?_
  rintro e wb ⟨vb, rfl, hNb⟩
  have hNH : Hid (NewB wa wb vb (Pk.vi xs.length ++ fbs xs)) := hNb
  have hBb : Hid (Below w1.heap.size w1 wb) := hBa.out.trans (hNb.below.mono hBa.out.size)
  have hs2 : Hid (SrcN wb (.slice lo ln lc) zs) := hs1.out.below hBb.out
  have hb2 : Bx wb w.heap.size 7 u v s (.slice lo ln lc) n := hbx.out.under (Fr.of_below (S := fun _ => False) hBb.out fun j hj hj2 => by omega) id
  have c0 := hb2.c0
  have c1 := hb2.c1
  have c2 := hb2.c2
  have c3 := hb2.c3
  have c4 := hb2.c4
  have c5 := hb2.c5
  clear hb2 hNb
  go_wp2_with fail
  refine (hofH.out wb hs2.out).mono ?_
  rintro e wc ⟨vc, rfl, hNc, hbc⟩
  have hBc : Hid (Below wb.heap.size wb wc) := hbc
  have hwc : Hid (Below w.heap.size w wc) := (hB1.out.1.trans (hBb.out.mono hB1.out.1.size)).trans (hbc.mono (Nat.le_trans hB1.out.1.size hBb.out.size))
  have hSc : Hid (SrcL (Fy F w wc) wc vc (fcs xs)) := hNc.srcL fun k hk => by
    rcases hk with h5 | h5
    · exact .inl (by have := h5.2; have := hB1.out.1.size; have := hBb.out.size; omega)
    · exact .inr h5
  have hWc : Hid (Wr (Fy F w wc) wc g ys) := wr_fy hWH.out hwc.out
  have hFc : Hid (∀ j, wc.heap.size ≤ j → Fy F w wc j) := fun j hj => .inr hj
  clear hNc hbc c0 c1 c2 c3 c4 c5
  go_wp2_with fail
  refine (wfloats_c (Fy F w wc) g ys xs vc wc hWc.out hFc.out (by omega) hSc.out hxl.out hxb.out).mono ?_
  rintro e wd ⟨rfl, h2, h3⟩
  have h2H : Hid (Wr (Fy F w wc) wd g (ys ++ (Pk.vi xs.length ++ fbs xs))) := h2
  have h3H : Hid (Fr (Fy F w wc) wc wd) := h3
  clear h2 h3
  go_wp2_with fail
  refine (num_nil wd).mono ?_
  rintro e w' ⟨rfl, rfl⟩
  go_wp2
  go_ret2
  exact ⟨_, rfl, wrO_of2 (hB1.out.1.trans (hBa.out.mono hB1.out.1.size)) hNH.out hBc.out h2H.out h3H.out⟩
end Go.Proofs.YtjckgcjcpmnhhaaDoor
