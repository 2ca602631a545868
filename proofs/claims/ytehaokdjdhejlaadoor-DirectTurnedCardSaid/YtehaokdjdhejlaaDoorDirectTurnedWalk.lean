/-
  DirectTurned: the whole walk.
-/
import Derived.Test.YtehaokdjdhejlaaDoorLa2
import Derived.Test.YtehaokdjdhejlaaDoorDd2
import Derived.Test.YtehaokdjdhejlaaDoorLdx
import Derived.Test.YtehaokdjdhejlaaDoorApg
import Derived.Test.YtehaokdjdhejlaaDoorPx7
import Derived.Deep.DeepCutAuto
namespace Go.Proofs.YtehaokdjdhejlaaDoor
open Flo Go.RowKit
theorem umodT {a : Int} {m : Nat} (hm : 0 < m) : ∃ A : Nat, A < m ∧ (IntKind.u64.wrap a).tmod m = (A : Int) := by
  refine ⟨((IntKind.u64.wrap a).tmod m).toNat, ?_, ?_⟩
  all_goals
    rw [IntKind.wrap_u64, Int.tmod_eq_emod_of_nonneg (by omega)]
    have h1 := Int.emod_nonneg (a % 18446744073709551616) (b := (m : Int)) (by omega)
    have h2 := Int.emod_lt_of_pos (a % 18446744073709551616) (b := (m : Int)) (by omega)
    omega
/-- the first i of what f tells -/
def upf (f : Nat → Nat × Nat) (i : Nat) : List (Nat × Nat) := (List.range i).map f
theorem upf_len (f : Nat → Nat × Nat) (i : Nat) : (upf f i).length = i := by simp [upf]
theorem upf_snoc (f : Nat → Nat × Nat) (i : Nat) : upf f (i + 1) = upf f i ++ [f i] := by simp [upf, List.range_succ]
theorem upf_get {f : Nat → Nat × Nat} {i j : Nat} (h : j < i) : (upf f i).getD j (0, 0) = f j := getD_map_range _ _ _ _ h
/-- three lists that grow side by side -/
structure Tri (w : World) (B i : Nat) (vm vt vs : Value) (fm ft fs : Nat → Nat × Nat) : Prop where
  m : w.ownsRow B 37 1 vm i (cz (upf fm i))
  t : w.ownsRow B 37 1 vt i (cz (upf ft i))
  s : w.ownsRow B 37 1 vs i (cz (upf fs i))
  mt : ∀ b, vm.ownBlock = some b → vt.ownBlock ≠ some b
  ms : ∀ b, vm.ownBlock = some b → vs.ownBlock ≠ some b
  ts : ∀ b, vt.ownBlock = some b → vs.ownBlock ≠ some b
theorem row_keep {w w' : World} {B n : Nat} {e : TypeId} {v : Value} {xs : List Value} {r : Option Nat} {o : Obj} (h : w.ownsRow B e 1 v n xs) (hg : (w.alloc o).grownBy w' r) (hne : ∀ b, v.ownBlock = some b → r ≠ some b) : w'.ownsRow B e 1 v n xs :=
  owns_block h fun b hb => by
    have hl := (h.lt b hb).2
    rw [hg.block b (by simp; omega) (fun e => hne b hb e.symm)]
    exact Below.heap_alloc _ _ _ hl
theorem mul_some {x k : Nat} (hx : Ari.fin x) (hk : Ari.fin k) : floatBits .mul .f64 x k = some (co .mul x k) := by
  unfold co
  rw [show floatBits .mul .f64 x k = Ieee.double.mul x k from rfl, Ari.mul_fin hx hk]
theorem Tri.start (w : World) (fm ft fs : Nat → Nat × Nat) : Tri (((w.alloc (.cells #[] 37)).alloc (.cells #[] 37)).alloc (.cells #[] 37)) w.heap.size 0 (.slice (some ⟨w.heap.size, 0, none⟩) 0 0) (.slice (some ⟨w.heap.size + 1, 0, none⟩) 0 0) (.slice (some ⟨w.heap.size + 1 + 1, 0, none⟩) 0 0) fm ft fs := by
  have e1 : (w.alloc (.cells #[] 37)).heap.size = w.heap.size + 1 := by simp
  have e2 : ((w.alloc (.cells #[] 37)).alloc (.cells #[] 37)).heap.size = w.heap.size + 1 + 1 := by simp
  have h1 := (emptyCx w w.heap.size (Nat.le_refl _))
  have h2 := (emptyCx (w.alloc (.cells #[] 37)) w.heap.size (by rw [e1]; omega))
  have h3 := (emptyCx ((w.alloc (.cells #[] 37)).alloc (.cells #[] 37)) w.heap.size (by rw [e2]; omega))
  rw [e1] at h2
  rw [e2] at h3
  refine ⟨(h1.alloc _).alloc _, h2.alloc _, h3, fun b h h' => ?_, fun b h h' => ?_, fun b h h' => ?_⟩
  · have k1 : w.heap.size = b := Option.some.inj h
    have k2 : w.heap.size + 1 = b := Option.some.inj h'
    omega
  · have k1 : w.heap.size = b := Option.some.inj h
    have k2 : w.heap.size + 1 + 1 = b := Option.some.inj h'
    omega
  · have k1 : w.heap.size + 1 = b := Option.some.inj h
    have k2 : w.heap.size + 1 + 1 = b := Option.some.inj h'
    omega
theorem Tri.appM {w w' : World} {B i : Nat} {vm vt vs v' : Value} {fm ft fs : Nat → Nat × Nat} {o : Obj} (h : Tri w B i vm vt vs fm ft fs) (hown : w'.ownsRow B 37 1 v' (i + 1) (cz (upf fm (i + 1)))) (hg : (w.alloc o).grownBy w' vm.ownBlock) (hn : ∀ b, v'.ownBlock = some b → vm.ownBlock = some b ∨ w.heap.size + 1 ≤ b) :
    w'.ownsRow B 37 1 v' (i + 1) (cz (upf fm (i + 1))) ∧ w'.ownsRow B 37 1 vt i (cz (upf ft i)) ∧ w'.ownsRow B 37 1 vs i (cz (upf fs i)) ∧ (∀ b, v'.ownBlock = some b → vt.ownBlock ≠ some b) ∧ (∀ b, v'.ownBlock = some b → vs.ownBlock ≠ some b) := by
  refine ⟨hown, row_keep h.t hg (fun b hb e => h.mt b e hb), row_keep h.s hg (fun b hb e => h.ms b e hb), fun b hb hb' => ?_, fun b hb hb' => ?_⟩
  · rcases hn b hb with e | e
    · exact h.mt b e hb'
    · have := (h.t.lt b hb').2; omega
  · rcases hn b hb with e | e
    · exact h.ms b e hb'
    · have := (h.s.lt b hb').2; omega
/-- three lists, the first one ahead -/
structure Tr1 (w : World) (B i : Nat) (vm vt vs : Value) (fm ft fs : Nat → Nat × Nat) : Prop where
  m : w.ownsRow B 37 1 vm (i + 1) (cz (upf fm (i + 1)))
  t : w.ownsRow B 37 1 vt i (cz (upf ft i))
  s : w.ownsRow B 37 1 vs i (cz (upf fs i))
  mt : ∀ b, vm.ownBlock = some b → vt.ownBlock ≠ some b
  ms : ∀ b, vm.ownBlock = some b → vs.ownBlock ≠ some b
  ts : ∀ b, vt.ownBlock = some b → vs.ownBlock ≠ some b
structure Tr2 (w : World) (B i : Nat) (vm vt vs : Value) (fm ft fs : Nat → Nat × Nat) : Prop where
  m : w.ownsRow B 37 1 vm (i + 1) (cz (upf fm (i + 1)))
  t : w.ownsRow B 37 1 vt (i + 1) (cz (upf ft (i + 1)))
  s : w.ownsRow B 37 1 vs i (cz (upf fs i))
  mt : ∀ b, vm.ownBlock = some b → vt.ownBlock ≠ some b
  ms : ∀ b, vm.ownBlock = some b → vs.ownBlock ≠ some b
  ts : ∀ b, vt.ownBlock = some b → vs.ownBlock ≠ some b
theorem Tri.next1 {w w' : World} {B i : Nat} {vm vt vs v' : Value} {fm ft fs : Nat → Nat × Nat} {o : Obj} (h : Tri w B i vm vt vs fm ft fs) (hown : w'.ownsRow B 37 1 v' (i + 1) (cz (upf fm (i + 1)))) (hg : (w.alloc o).grownBy w' vm.ownBlock) (hn : ∀ b, v'.ownBlock = some b → vm.ownBlock = some b ∨ w.heap.size + 1 ≤ b) : Tr1 w' B i v' vt vs fm ft fs := by
  obtain ⟨h1, h2, h3, h4, h5⟩ := h.appM hown hg hn
  exact ⟨h1, h2, h3, h4, h5, h.ts⟩
theorem Tr1.next2 {w w' : World} {B i : Nat} {vm vt vs v' : Value} {fm ft fs : Nat → Nat × Nat} {o : Obj} (h : Tr1 w B i vm vt vs fm ft fs) (hown : w'.ownsRow B 37 1 v' (i + 1) (cz (upf ft (i + 1)))) (hg : (w.alloc o).grownBy w' vt.ownBlock) (hn : ∀ b, v'.ownBlock = some b → vt.ownBlock = some b ∨ w.heap.size + 1 ≤ b) : Tr2 w' B i vm v' vs fm ft fs := by
  refine ⟨row_keep h.m hg (fun b hb e => h.mt b hb e), hown, row_keep h.s hg (fun b hb e => h.ts b e hb), fun b hb hb' => ?_, h.ms, fun b hb hb' => ?_⟩
  · rcases hn b hb' with e | e
    · exact h.mt b hb e
    · have := (h.m.lt b hb).2; omega
  · rcases hn b hb with e | e
    · exact h.ts b e hb'
    · have := (h.s.lt b hb').2; omega
theorem Tr2.next3 {w w' : World} {B i : Nat} {vm vt vs v' : Value} {fm ft fs : Nat → Nat × Nat} {o : Obj} (h : Tr2 w B i vm vt vs fm ft fs) (hown : w'.ownsRow B 37 1 v' (i + 1) (cz (upf fs (i + 1)))) (hg : (w.alloc o).grownBy w' vs.ownBlock) (hn : ∀ b, v'.ownBlock = some b → vs.ownBlock = some b ∨ w.heap.size + 1 ≤ b) : Tri w' B (i + 1) vm vt v' fm ft fs := by
  refine ⟨row_keep h.m hg (fun b hb e => h.ms b hb e), row_keep h.t hg (fun b hb e => h.ts b hb e), hown, h.mt, fun b hb hb' => ?_, fun b hb hb' => ?_⟩
  · rcases hn b hb' with e | e
    · exact h.ms b hb e
    · have := (h.m.lt b hb).2; omega
  · rcases hn b hb' with e | e
    · exact h.ts b hb e
    · have := (h.t.lt b hb).2; omega
set_option maxRecDepth 100000 in
set_option maxHeartbeats 4000000 in
theorem directTurned.walk (v : Value) (zs : List Nat) (k0 : Int) (w : World) (hin : InU w v zs) (hr : zs.length * 8 ≤ 140737488351232) :
    Calls Tryd.prog 7 #[v, .int .i64 k0] w fun e w' => e = .returned (.bool true) ∧ Below w.heap.size w w' := by
  have hinH : Hid (InU w v zs) := hin
  clear hin
  obtain ⟨A, hA, hAe0⟩ := umodT (a := k0) (m := 129) (by decide)
  have hAe : (IntKind.u64.wrap k0).tmod 129 = (A : Int) := hAe0
  clear hAe0
  go_enter Tryd.func7, Tryd.ntmps7
  go_wp2_with fail
  refine (lives10_c w).mono ?_
  rintro e w1 ⟨rfl, B1⟩
  have hB1 : Hid (Below w.heap.size w w1) := B1
  clear B1
  go_wp2_with fail
  refine (listOf_c v zs w1 (hinH.out.below hB1.out) hr).mono ?_
  rintro e w2 ⟨vx, rfl, hx, B2⟩
  have hB2 : Hid (Below w.heap.size w w2) := below_tr hB1.out B2
  obtain ⟨n, hn⟩ : ∃ n, Hid (zs.length / 2 = n) := ⟨_, (rfl : _ = _)⟩
  obtain ⟨xs, hxs⟩ : ∃ xs, Hid (prs zs = xs) := ⟨_, (rfl : _ = _)⟩
  have hxl : Hid (xs.length = n) := by show _ = _; rw [← hxs.out, prs_len, hn.out]
  have hlim : Hid (Lim xs) := by
    show Lim _
    rw [← hxs.out]
    obtain ⟨_, _, _, _, h3⟩ := hinH.out
    exact prs_lim h3
  have hX : Hid (RdC w2 vx xs) := by
    have h := hx
    rw [hn.out, hxs.out, ← hxl.out] at h
    exact RdC.of_own h
  have hnb : n ≤ 8796093022208 := by have := hn.out; omega
  obtain ⟨ax, cx, rfl⟩ := hX.out.slice hxl.out
  clear hx B2 hB1 hinH hr
  by_cases h0 : n = 0
  · subst h0
    go_wp2_with fail
    go_ret
    exact ⟨rfl, hB2.out⟩
  by_cases h60 : n > 60
  · have h0' : ((n : Int) == 0) = false := beq_eq_false_iff_ne.2 (by omega)
    have h2' : (n : Int) > 60 := by omega
    go_wp2_with fail
    go_ret
    exact ⟨rfl, hB2.out⟩
  have h0' : ((n : Int) == 0) = false := beq_eq_false_iff_ne.2 (by omega)
  have h2' : decide ((n : Int) > 60) = false := decide_eq_false (by omega)
  have hn0 : 0 < n := by omega
  have hn2 : n ≤ 60 := by omega
  clear h0 h60 hnb
  go_wp2_with fail
  refine (calm_c _ xs n w2 hX.out hlim.out hxl.out hn0 (by omega)).mono ?_
  rintro e w3 ⟨r, rfl, hC, B3⟩
  have hB3 : Hid (Below w.heap.size w w3) := below_tr hB2.out B3
  have hX3 : Hid (RdC w3 (.slice ax n cx) xs) := hX.out.below B3
  clear B3 hX hB2
  cases r
  · go_wp2_with fail
    go_ret
    exact ⟨rfl, hB3.out⟩
  have hCalm : Hid (Tr.Calm n fun j => xs.getD j (0, 0)) := hC rfl
  clear hC
  obtain ⟨K, hK⟩ : ∃ K : Int, (A : Int) - 64 = K := ⟨_, rfl⟩
  have hK1 : -64 ≤ K := by omega
  have hK2 : K ≤ 64 := by omega
  go_wp2_with fail
  refine (Ldexp1_c K w3 hK1 hK2).mono ?_
  rintro e w4 ⟨rfl, rfl⟩
  obtain ⟨f, hf⟩ : ∃ f, Hid (Tr.pw K = f) := ⟨_, (rfl : _ = _)⟩
  rw [hf.out]
  clear hK hAe
  obtain ⟨fx, hfx⟩ : ∃ fx : Nat → Nat × Nat, Hid (fx = fun j => xs.getD j (0, 0)) := ⟨_, (rfl : _ = _)⟩
  obtain ⟨fm, hfm⟩ : ∃ fm : Nat → Nat × Nat, Hid (fm = fun j => (Ari.ng (xs.getD j (0, 0)).1, Ari.ng (xs.getD j (0, 0)).2)) := ⟨_, (rfl : _ = _)⟩
  obtain ⟨ft, hft⟩ : ∃ ft : Nat → Nat × Nat, Hid (ft = fun j => (Ari.ng (xs.getD j (0, 0)).2, (xs.getD j (0, 0)).1)) := ⟨_, (rfl : _ = _)⟩
  obtain ⟨fs, hfs⟩ : ∃ fs : Nat → Nat × Nat, Hid (fs = fun j => (co .mul (xs.getD j (0, 0)).1 f, co .mul (xs.getD j (0, 0)).2 f)) := ⟨_, (rfl : _ = _)⟩
  have hT0 : Hid (Tri (((w4.alloc (.cells #[] 37)).alloc (.cells #[] 37)).alloc (.cells #[] 37)) w4.heap.size 0 (.slice (some ⟨w4.heap.size, 0, none⟩) 0 0) (.slice (some ⟨w4.heap.size + 1, 0, none⟩) 0 0) (.slice (some ⟨w4.heap.size + 1 + 1, 0, none⟩) 0 0) fm ft fs) := Tri.start w4 fm ft fs
  have hBB : Hid (Below w4.heap.size w4 (((w4.alloc (.cells #[] 37)).alloc (.cells #[] 37)).alloc (.cells #[] 37))) := (((Below.refl _ _).alloc (Nat.le_refl _) _).alloc (by simp) _).alloc (by simp; omega) _
  obtain ⟨i0, hi, hz0, hz1, hz2⟩ := info_cx
  go_wp2_with fail
  go_loopw [8, 9, 10, 12, 51] (fun sm st ss _ si wx => ∃ (i : Nat), i ≤ n ∧ si = .int .i64 (i : Int) ∧ Hid (Tri wx w4.heap.size i sm st ss fm ft fs) ∧ Hid (Below w4.heap.size w4 wx)) (fun _ _ _ _ si _ => n - (intOf si).toNat)
  case atStart => exact ⟨0, Nat.zero_le _, rfl, hT0, hBB⟩
  case round =>
    clear hT0 hBB
    obtain ⟨i, hin, rfl, S, hb⟩ := hrel
    by_cases hlt : i < n
    · have hlt' : (i : Int) < (n : Int) := by omega
      obtain ⟨bx, ox, rfl, hbx, k1⟩ := hX3.out.each hlt hxl.out
      have hcx := (hb.out.cell (p := ⟨bx, ox + i, none⟩) hbx).trans k1
      have hlx := hlim.out i (by rw [hxl.out]; exact hlt)
      have hok := hCalm.out.1 i hlt
      have hsm : Hid (cz (upf fm (i + 1)) = cz (upf fm i) ++ [.complex .f64 (Ari.ng (xs.getD i (0, 0)).1) (Ari.ng (xs.getD i (0, 0)).2)]) := by show _ = _; rw [upf_snoc, cz_snoc, hfm.out]
      have hst : Hid (cz (upf ft (i + 1)) = cz (upf ft i) ++ [.complex .f64 (Ari.ng (xs.getD i (0, 0)).2) (xs.getD i (0, 0)).1]) := by show _ = _; rw [upf_snoc, cz_snoc, hft.out]
      have hss : Hid (cz (upf fs (i + 1)) = cz (upf fs i) ++ [.complex .f64 (co .mul (xs.getD i (0, 0)).1 f) (co .mul (xs.getD i (0, 0)).2 f)]) := by show _ = _; rw [upf_snoc, cz_snoc, hfs.out]
      have hff : Ari.fin f := by rw [← hf.out]; exact (Tr.pw_facts hK1 hK2).1
      have hok1 : Ari.fin (xs.getD i (0, 0)).1 := hok.1.fin
      have hok2 : Ari.fin (xs.getD i (0, 0)).2 := hok.2.fin
      have hm1 : ∀ t w, (binOp .mul t (.float .f64 (xs.getD i (0, 0)).1) (.float .f64 f)).run Tryd.prog w = .ok (.float .f64 (co .mul (xs.getD i (0, 0)).1 f)) w := fun t w => run_float_arith w .mul t .f64 _ _ _ (mul_some hok1 hff)
      have hm2 : ∀ t w, (binOp .mul t (.float .f64 (xs.getD i (0, 0)).2) (.float .f64 f)).run Tryd.prog w = .ok (.float .f64 (co .mul (xs.getD i (0, 0)).2 f)) w := fun t w => run_float_arith w .mul t .f64 _ _ _ (mul_some hok2 hff)
      have hg1 := fun w => run_fneg (P := Tryd.prog) (xs.getD i (0, 0)).1 w hlx.1
      have hg2 := fun w => run_fneg (P := Tryd.prog) (xs.getD i (0, 0)).2 w hlx.2
      clear hok hok1 hok2 hff k1 hlx
      generalize co .mul (xs.getD i (0, 0)).1 f = p1 at *
      generalize co .mul (xs.getD i (0, 0)).2 f = p2 at *
      generalize (xs.getD i (0, 0)).1 = a at *
      generalize (xs.getD i (0, 0)).2 = c at *
      generalize Ari.ng a = na at *
      generalize Ari.ng c = nc at *
      have hbm : Hid (Below w4.heap.size w4 wr) := hb
      have hownm : Hid (wr.ownsRow w4.heap.size 37 1 u8 i (cz (upf fm i))) := S.out.m
      have hsnm : Hid (cz (upf fm (i + 1)) = cz (upf fm i) ++ [.complex .f64 na nc]) := hsm
      have hszm : w4.heap.size ≤ wr.heap.size := hbm.out.size
      go_wp2_with (at_builtin; refine wpList_append_fg _ rfl _ _ 24 rfl w4.heap.size 37 i0 (.complex .f64 0 0) 1 16 Tryd.underlying24 hi hz0 hz1 hz2 rfl (by decide) _ _ _ rfl (hownm.out.alloc _) ⟨wr.heap.size, 0, none⟩ 1 1 [.complex .f64 na nc] rfl rfl (cell_one_new10 _ _ _) (by simp [Value.oneCell']) (by unfold maxLen; omega) (by omega) (by simp; omega) ?_)
      intro vm wm q1 q2 q3
      rw [← hsnm.out] at q1
      have S1 : Hid (Tr1 wm w4.heap.size i vm u9 u10 fm ft fs) := S.out.next1 q1 q2 q3
      have hbt : Hid (Below w4.heap.size w4 wm) := (hb.out.alloc hszm _).grown q2 (by simp; omega) (fun k' hk' => (S.out.m.lt k' hk').1)
      clear q1 q2 q3 S hb hownm hsnm hbm hcx
      have hownt : Hid (wm.ownsRow w4.heap.size 37 1 u9 i (cz (upf ft i))) := S1.out.t
      have hsnt : Hid (cz (upf ft (i + 1)) = cz (upf ft i) ++ [.complex .f64 nc a]) := hst
      have hszt : w4.heap.size ≤ wm.heap.size := hbt.out.size
      go_wp2_with (at_builtin; refine wpList_append_fg _ rfl _ _ 24 rfl w4.heap.size 37 i0 (.complex .f64 0 0) 1 16 Tryd.underlying24 hi hz0 hz1 hz2 rfl (by decide) _ _ _ rfl (hownt.out.alloc _) ⟨wm.heap.size, 0, none⟩ 1 1 [.complex .f64 nc a] rfl rfl (cell_one_new10 _ _ _) (by simp [Value.oneCell']) (by unfold maxLen; omega) (by omega) (by simp; omega) ?_)
      intro vt wt q1 q2 q3
      rw [← hsnt.out] at q1
      have S2 : Hid (Tr2 wt w4.heap.size i vm vt u10 fm ft fs) := S1.out.next2 q1 q2 q3
      have hbs : Hid (Below w4.heap.size w4 wt) := (hbt.out.alloc hszt _).grown q2 (by simp; omega) (fun k' hk' => (S1.out.t.lt k' hk').1)
      clear q1 q2 q3 S1 hbt hownt hsnt
      have howns : Hid (wt.ownsRow w4.heap.size 37 1 u10 i (cz (upf fs i))) := S2.out.s
      have hsns : Hid (cz (upf fs (i + 1)) = cz (upf fs i) ++ [.complex .f64 p1 p2]) := hss
      have hszs : w4.heap.size ≤ wt.heap.size := hbs.out.size
      go_wp2_with (at_builtin; refine wpList_append_fg _ rfl _ _ 24 rfl w4.heap.size 37 i0 (.complex .f64 0 0) 1 16 Tryd.underlying24 hi hz0 hz1 hz2 rfl (by decide) _ _ _ rfl (howns.out.alloc _) ⟨wt.heap.size, 0, none⟩ 1 1 [.complex .f64 p1 p2] rfl rfl (cell_one_new10 _ _ _) (by simp [Value.oneCell']) (by unfold maxLen; omega) (by omega) (by simp; omega) ?_)
      intro vs ws q1 q2 q3
      rw [← hsns.out] at q1
      have S3 : Hid (Tri ws w4.heap.size (i + 1) vm vt vs fm ft fs) := S2.out.next3 q1 q2 q3
      have hbe : Hid (Below w4.heap.size w4 ws) := (hbs.out.alloc hszs _).grown q2 (by simp; omega) (fun k' hk' => (S2.out.s.lt k' hk').1)
      clear q1 q2 q3 S2 hbs howns hsns hm1 hm2 hg1 hg2
      go_wp2_with fail
      go_roundw
      case rel => exact ⟨i + 1, by omega, by go_num, S3, hbe⟩
      case measure => simp [intOf]; omega
    · have hlt' : decide ((i : Int) < (n : Int)) = false := decide_eq_false (by omega)
      have ei : i = n := by omega
      subst ei
      rename World => w5
      have hlm : Hid (Lim (upf fm i) ∧ Lim (upf ft i) ∧ Lim (upf fs i)) := by
        refine ⟨fun j hj => ?_, fun j hj => ?_, fun j hj => ?_⟩
        all_goals
          rw [upf_len] at hj
          rw [upf_get hj]
          have hlx := hlim.out j (by rw [hxl.out]; exact hj)
        · rw [hfm.out]; exact ⟨Ari.ng_lt hlx.1, Ari.ng_lt hlx.2⟩
        · rw [hft.out]; exact ⟨Ari.ng_lt hlx.2, hlx.1⟩
        · rw [hfs.out]; exact ⟨co_lt .., co_lt ..⟩
      have hrd : Hid (RdC w5 u8 (upf fm i) ∧ RdC w5 u9 (upf ft i) ∧ RdC w5 u10 (upf fs i)) := ⟨RdC.of_own (by rw [upf_len]; exact S.out.m), RdC.of_own (by rw [upf_len]; exact S.out.t), RdC.of_own (by rw [upf_len]; exact S.out.s)⟩
      have hX5 : Hid (RdC w5 (.slice ax i cx) xs) := hX3.out.below hb.out
      have hB5 : Hid (Below w.heap.size w w5) := below_tr hB3.out hb.out
      clear S hb hX3
      go_wp2_with fail
      refine (forwardOk_c _ xs i w5 hX5.out hlim.out hxl.out hn0 (by omega)).mono ?_
      rintro e w6 ⟨g6, ys, rfl, hg6, R6, B6⟩
      have hR6 : Hid (Row w6 g6 g6 i (fun k => dsm i k fun j => xs.getD j (0, 0)) i ys) := R6
      have hB6 : Hid (Below w5.heap.size w5 w6) := B6
      clear R6 B6
      go_wp2_with fail
      refine (forwardOk_c _ (upf fm i) i w6 (hrd.out.1.below hB6.out) hlm.out.1 (upf_len ..) hn0 (by omega)).mono ?_
      rintro e w7 ⟨g7, ms, rfl, hg7, R7, B7⟩
      have hR7 : Hid (Row w7 g7 g7 i (fun k => dsm i k fun j => (upf fm i).getD j (0, 0)) i ms) := R7
      have hB7 : Hid (Below w5.heap.size w5 w7) := below_tr hB6.out B7
      have hR6b : Hid (Row w7 g6 g6 i (fun k => dsm i k fun j => xs.getD j (0, 0)) i ys) := hR6.out.keep B7
      clear R7 B7 hR6
      go_wp2_with fail
      refine (forwardOk_c _ (upf ft i) i w7 (hrd.out.2.1.below hB7.out) hlm.out.2.1 (upf_len ..) hn0 (by omega)).mono ?_
      rintro e w8 ⟨g8, ts, rfl, hg8, R8, B8⟩
      have hR8 : Hid (Row w8 g8 g8 i (fun k => dsm i k fun j => (upf ft i).getD j (0, 0)) i ts) := R8
      have hB8 : Hid (Below w5.heap.size w5 w8) := below_tr hB7.out B8
      have hR6c : Hid (Row w8 g6 g6 i (fun k => dsm i k fun j => xs.getD j (0, 0)) i ys) := hR6b.out.keep B8
      have hR7c : Hid (Row w8 g7 g7 i (fun k => dsm i k fun j => (upf fm i).getD j (0, 0)) i ms) := hR7.out.keep B8
      clear R8 B8 hR6b hR7
      go_wp2_with fail
      refine (forwardOk_c _ (upf fs i) i w8 (hrd.out.2.2.below hB8.out) hlm.out.2.2 (upf_len ..) hn0 (by omega)).mono ?_
      rintro e w9 ⟨g9, ss, rfl, hg9, R9, B9⟩
      have hR9 : Hid (Row w9 g9 g9 i (fun k => dsm i k fun j => (upf fs i).getD j (0, 0)) i ss) := R9
      have hB9 : Hid (Below w.heap.size w w9) := below_tr (below_tr hB5.out hB8.out) B9
      have hR6d : Hid (Row w9 g6 g6 i (fun k => dsm i k fun j => xs.getD j (0, 0)) i ys) := hR6c.out.keep B9
      have hR7d : Hid (Row w9 g7 g7 i (fun k => dsm i k fun j => (upf fm i).getD j (0, 0)) i ms) := hR7c.out.keep B9
      have hR8d : Hid (Row w9 g8 g8 i (fun k => dsm i k fun j => (upf ft i).getD j (0, 0)) i ts) := hR8.out.keep B9
      clear R9 B9 hR6c hR7c hR8
      have hq1 : Hid (∀ k, k < i → Tr.okc (ys.getD k (0, 0)) ∧ Tr.D (-1) 0 (ys.getD k (0, 0)) (ms.getD k (0, 0)) ∧ Tr.T (ys.getD k (0, 0)) (ts.getD k (0, 0)) ∧ Tr.D 1 K (ys.getD k (0, 0)) (ss.getD k (0, 0))) := by
        show ∀ k, k < i → _
        intro k hk
        have c0 := Tr.dsm_ok hn0 hk hCalm.out
        have ey := Tr.lk_eq (hR6d.out.up k hk) ⟨c0.1.fin, c0.2.fin⟩
        have cs := hCalm.out.2 k hk
        have d1 : Tr.D (-1) 0 (dsm i k fun j => xs.getD j (0, 0)) (dsm i k fun j => (upf fm i).getD j (0, 0)) := Tr.dst_D (.inr rfl) (by decide) (by decide) hn0 (by omega) (fun j hj => by
          rw [upf_get (by omega), hfm.out]
          exact ⟨Tr.P_ng (hCalm.out.1 j (by omega)).1.fin, Tr.P_ng (hCalm.out.1 j (by omega)).2.fin⟩) cs
        have d2 : Tr.T (dsm i k fun j => xs.getD j (0, 0)) (dsm i k fun j => (upf ft i).getD j (0, 0)) := Tr.dst_T hn0 (by omega) (fun j hj => by
          rw [upf_get (by omega), hft.out]
          exact ⟨Tr.P_ng (hCalm.out.1 j (by omega)).2.fin, Tr.P_refl (hCalm.out.1 j (by omega)).1.fin⟩) cs
        have d3 : Tr.D 1 K (dsm i k fun j => xs.getD j (0, 0)) (dsm i k fun j => (upf fs i).getD j (0, 0)) := Tr.dst_D (.inl rfl) hK1 hK2 hn0 (by omega) (fun j hj => by
          rw [upf_get (by omega), hfs.out, ← hf.out]
          exact ⟨Tr.pw_P hK1 hK2 (hCalm.out.1 j (by omega)).1, Tr.pw_P hK1 hK2 (hCalm.out.1 j (by omega)).2⟩) cs
        have em := Tr.lk_eq (hR7d.out.up k hk) ⟨d1.1.2.1, d1.2.2.1⟩
        have et := Tr.lk_eq (hR8d.out.up k hk) ⟨d2.1.2.1, d2.2.2.1⟩
        have es := Tr.lk_eq (hR9.out.up k hk) ⟨d3.1.2.1, d3.2.2.1⟩
        rw [ey, em, et, es]
        exact ⟨c0, d1, d2, d3⟩
      go_wp2_with fail
      go_loopw [21, 22, 151] (fun _ _ sk wx => ∃ (k d : Nat), k ≤ i ∧ sk = .int .i64 (k : Int) ∧ Hid (wx = w9.drewN d)) (fun _ _ sk _ => i - (intOf sk).toNat)
      case atStart => exact ⟨0, 0, Nat.zero_le _, rfl, (rfl : w9 = w9.drewN 0)⟩
      case round =>
        obtain ⟨k, d, hki, rfl, hw⟩ := hrel
        by_cases hltk : k < i
        · have hltk' : (k : Int) < (i : Int) := by omega
          have cy : wr.cell? ⟨g6, k, none⟩ = some (.complex .f64 (ys.getD k (0, 0)).1 (ys.getD k (0, 0)).2) := by rw [hw.out]; exact hR6d.out.cell hltk
          have cm : wr.cell? ⟨g7, k, none⟩ = some (.complex .f64 (ms.getD k (0, 0)).1 (ms.getD k (0, 0)).2) := by rw [hw.out]; exact hR7d.out.cell hltk
          have ct : wr.cell? ⟨g8, k, none⟩ = some (.complex .f64 (ts.getD k (0, 0)).1 (ts.getD k (0, 0)).2) := by rw [hw.out]; exact hR8d.out.cell hltk
          have cs : wr.cell? ⟨g9, k, none⟩ = some (.complex .f64 (ss.getD k (0, 0)).1 (ss.getD k (0, 0)).2) := by rw [hw.out]; exact hR9.out.cell hltk
          obtain ⟨q1, q2, q3, q4⟩ := hq1.out k hltk
          generalize ys.getD k (0, 0) = y at *
          generalize ms.getD k (0, 0) = m at *
          generalize ts.getD k (0, 0) = t at *
          generalize ss.getD k (0, 0) = s at *
          obtain ⟨y1, y2⟩ := y
          obtain ⟨m1, m2⟩ := m
          obtain ⟨t1, t2⟩ := t
          obtain ⟨s1, s2⟩ := s
          have o1 : FloatKind.f64.format.order m1 (Ari.ng y1) = some .eq := Tr.P_ord q2.1 (Tr.P_ng q1.1.fin)
          have o2 : FloatKind.f64.format.order m2 (Ari.ng y2) = some .eq := Tr.P_ord q2.2 (Tr.P_ng q1.2.fin)
          have o3 : FloatKind.f64.format.order t1 (Ari.ng y2) = some .eq := Tr.P_ord q3.1 (Tr.P_ng q1.2.fin)
          have o4 : FloatKind.f64.format.order t2 y1 = some .eq := Tr.P_ord q3.2 (Tr.P_refl q1.1.fin)
          have o5 : FloatKind.f64.format.order s1 (co .mul y1 f) = some .eq := by rw [← hf.out]; exact Tr.P_ord q4.1 (Tr.pw_P hK1 hK2 q1.1)
          have o6 : FloatKind.f64.format.order s2 (co .mul y2 f) = some .eq := by rw [← hf.out]; exact Tr.P_ord q4.2 (Tr.pw_P hK1 hK2 q1.2)
          have hff : Ari.fin f := by rw [← hf.out]; exact (Tr.pw_facts hK1 hK2).1
          have hm1 : ∀ t w, (binOp .mul t (.float .f64 y1) (.float .f64 f)).run Tryd.prog w = .ok (.float .f64 (co .mul y1 f)) w := fun t w => run_float_arith w .mul t .f64 _ _ _ (mul_some q1.1.fin hff)
          have hm2 : ∀ t w, (binOp .mul t (.float .f64 y2) (.float .f64 f)).run Tryd.prog w = .ok (.float .f64 (co .mul y2 f)) w := fun t w => run_float_arith w .mul t .f64 _ _ _ (mul_some q1.2.fin hff)
          have hg2 := fun w => run_fneg (P := Tryd.prog) y2 w q1.2.fin.1
          have hgc := fun w => run_cneg (P := Tryd.prog) y1 y2 w q1.1.fin.1 q1.2.fin.1
          clear q1 q2 q3 q4 hff
          generalize co .mul y1 f = p1 at *
          generalize co .mul y2 f = p2 at *
          generalize Ari.ng y1 = n1 at *
          generalize Ari.ng y2 = n2 at *
          go_wp2_with fail
          exact ⟨⟨k + 1, d, by omega, by go_num, hw⟩, by simp [intOf]; omega⟩
        · have hltk' : decide ((k : Int) < (i : Int)) = false := decide_eq_false (by omega)
          have hE : Hid (Below w.heap.size w wr) := by rw [hw.out]; exact below_drewN hB9.out d
          go_wp2_with fail
          go_ret
          exact ⟨rfl, hE.out⟩
end Go.Proofs.YtehaokdjdhejlaaDoor
