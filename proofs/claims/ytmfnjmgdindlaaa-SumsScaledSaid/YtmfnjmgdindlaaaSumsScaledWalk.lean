/-
  SumsScaled, walked.
-/
import Derived.Test.YtmfnjmgdindlaaaVg9
import Derived.Test.YtmfnjmgdindlaaaSd9
import Derived.Deep.DeepCutAuto
namespace Go.Proofs.Ytmfnjmgdindlaaa
open Flo Go.RowKit Ieee
theorem own_und {w w' : World} {B n : Nat} {T : TypeId} {v : Value} {xs : List Value} (h : w.ownsRow B T 1 v n xs) (hb : Below w.heap.size w w') : w'.ownsRow B T 1 v n xs := by
  obtain ⟨h1, h2⟩ := h
  refine ⟨h1, ?_⟩
  rcases h2 with h2 | ⟨g, cap, cur, e, h3, h4, h5⟩
  · exact .inl h2
  · exact .inr ⟨g, cap, cur, e, h3, (hb.block g (Array.getElem?_eq_some_iff.1 h4).1).trans h4, h5⟩
theorem own_sl {w : World} {B n : Nat} {T : TypeId} {v : Value} {xs : List Value} (h : w.ownsRow B T 1 v n xs) (hne : v.ownBlock ≠ none) : ∃ g cap, v = .slice (some ⟨g, 0, none⟩) n cap ∧ n ≤ cap ∧ B ≤ g ∧ g < w.heap.size := by
  rcases h.2 with ⟨e, _⟩ | ⟨g, cap, cur, e, h3, h4, h5, _⟩
  · exact absurd (by rw [e]; rfl) hne
  · exact ⟨g, cap, e, h5, h3, (Array.getElem?_eq_some_iff.1 h4).1⟩
theorem own_grown {w w' : World} {B n : Nat} {T : TypeId} {v : Value} {xs : List Value} {row : Option Nat} (h : w.ownsRow B T 1 v n xs) (hg : w.grownBy w' row) (hne : ∀ b, v.ownBlock = some b → some b ≠ row) : w'.ownsRow B T 1 v n xs := by
  obtain ⟨h1, h2⟩ := h
  refine ⟨h1, ?_⟩
  rcases h2 with h2 | ⟨g, cap, cur, e, h3, h4, h5⟩
  · exact .inl h2
  · subst e
    exact .inr ⟨g, cap, cur, rfl, h3, (hg.block g (Array.getElem?_eq_some_iff.1 h4).1 (hne g rfl)).trans h4, h5⟩
theorem fr_co {op : BinOp} {x y : Nat} (h : nanB (co op x y) = false) (w : World) : fr op x y w = co op x y := by
  unfold co at h ⊢
  unfold fr
  cases e : floatBits op .f64 x y with
  | some r => rfl
  | none => rw [e] at h; exact absurd h (by decide)
/-- which floats are 0 -/
theorem eq_zero {f : Nat} (hf : f < 18446744073709551616) : ((FloatKind.f64.format.order f 0 == some .eq) = true → f % 9223372036854775808 = 0) := by
  have hq : FloatKind.f64.format = double := rfl
  rw [hq, eq_iff f 0 hf (by decide)]
  intro h
  simp only [Bool.and_eq_true, decide_eq_true_eq, show sv 0 = 0 by decide] at h
  have := h.2
  unfold sv at this
  split at this <;> omega
set_option maxRecDepth 100000 in
set_option maxHeartbeats 4000000 in
theorem sumsScaled_w (a0 : Option Addr) (n0 c0 : Nat) (bs : List Nat) (k : Int) (w : World) (l0 : Hid (bs.length = n0)) (i0 : Hid (InU w (.slice a0 n0 c0) bs)) (m0 : Hid (∀ x ∈ bs, x < 18446744073709551616)) :
    Calls Try.prog 6 #[.slice a0 n0 c0, .int .i64 k] w fun e w' => e = .returned (.bool true) ∧ Below w.heap.size w w' := by
  obtain ⟨q0, hi0, hz0, hz1, hz2⟩ := info_parts info24
  go_enter Try.func6, Try.ntmps6
  go_wp2_with fail
  refine (lives_c _).mono ?_
  rintro e w1 ⟨rfl, k1⟩
  have k1H : Hid (Below w.heap.size w w1) := k1
  clear k1
  by_cases g0 : n0 > 8192
  · have g0' : (n0 : Int) > 8192 := by omega
    go_wp2_with fail
    go_ret
    exact ⟨rfl, k1H.out⟩
  have g0' : decide ((n0 : Int) > 8192) = false := decide_eq_false (by omega)
  by_cases g1 : k < -64
  · go_wp2_with fail
    go_ret
    exact ⟨rfl, k1H.out⟩
  have g1' : decide (k < -64) = false := decide_eq_false g1
  by_cases g2 : k > 64
  · go_wp2_with fail
    go_ret
    exact ⟨rfl, k1H.out⟩
  have g2' : decide (k > 64) = false := decide_eq_false g2
  have kb1 : Hid (-64 ≤ k) := (by omega : -64 ≤ k)
  have kb2 : Hid (k ≤ 64) := (by omega : k ≤ 64)
  have hpow : Hid (∀ W, Calls Try.prog 21 #[.int .i64 k] W fun e w' => e = .returned (.float .f64 (pw k)) ∧ W = w') := fun W => power_c k W (by omega) (by omega)
  clear g1 g2
  go_wp2_with fail
  obtain ⟨w2, hw2⟩ : ∃ w2, Hid ((w1.alloc (.cells #[] 26)).alloc (.cells #[] 26) = w2) := ⟨_, (rfl : _ = _)⟩
  have r1 : Hid (w2.ownsRow w1.heap.size 26 1 (.slice (some ⟨w1.heap.size, 0, none⟩) 0 0) 0 []) := by rw [← hw2.out]; exact World.ownsRow.alloc (World.ownsRow_made w1 #[] 0 (Nat.le_refl _) (by decide) rfl) _
  have r2 : Hid (w2.ownsRow w1.heap.size 26 1 (.slice (some ⟨w1.heap.size + 1, 0, none⟩) 0 0) 0 []) := by
    rw [← hw2.out]
    have := World.ownsRow_made (base := w1.heap.size) (e := 26) (size := 1) (w1.alloc (.cells #[] 26)) #[] 0 (by simp) (by decide) rfl
    rwa [show (w1.alloc (.cells #[] 26)).heap.size = w1.heap.size + 1 by simp] at this
  have k2H : Hid (Below w.heap.size w w2) := by rw [← hw2.out]; exact (k1H.out.alloc k1H.out.size _).alloc (by simp; have := k1H.out.size; omega) _
  have s2H : Hid (w2.heap.size = w1.heap.size + 2) := by show _ = _; rw [← hw2.out]; simp
  rw [hw2.out]
  clear hw2
  have hfl := floats9_c (.slice a0 n0 c0) bs w2 (i0.out.below k2H.out) (by rw [l0.out]; omega)
  rw [l0.out] at hfl
  refine hfl.mono ?_
  clear hfl
  rintro e wE ⟨ve, rfl, OE, hneE, kE⟩
  have kEH : Hid (Below w.heap.size w wE) := k2H.out.trans (kE.mono k2H.out.size)
  obtain ⟨ge, capE, rfl, hcapE, hBE, hgE⟩ := own_sl OE hneE
  have hel : Hid (∀ x ∈ bs.map bt, x < 18446744073709551616) := lim_map m0.out
  have hell : Hid ((bs.map bt).length = n0) := by show _ = _; rw [List.length_map, l0.out]
  have OEH : Hid (wE.ownsRow w2.heap.size 26 1 (.slice (some ⟨ge, 0, none⟩) n0 capE) n0 (fl (bs.map bt))) := OE
  have hgEH : Hid (ge < wE.heap.size) := hgE
  have r1E : Hid (wE.ownsRow w1.heap.size 26 1 (.slice (some ⟨w1.heap.size, 0, none⟩) 0 0) 0 []) := own_und r1.out kE
  have r2E : Hid (wE.ownsRow w1.heap.size 26 1 (.slice (some ⟨w1.heap.size + 1, 0, none⟩) 0 0) 0 []) := own_und r2.out kE
  have hbsE : Hid (∃ b1 b2, (Value.slice (some ⟨w1.heap.size, 0, none⟩) 0 0).ownBlock = some b1 ∧ (Value.slice (some ⟨w1.heap.size + 1, 0, none⟩) 0 0).ownBlock = some b2 ∧ b1 ≠ b2 ∧ b1 ≠ ge ∧ b2 ≠ ge) := ⟨w1.heap.size, w1.heap.size + 1, rfl, rfl, by omega, by have := s2H.out; omega, by have := s2H.out; omega⟩
  clear OE hneE kE r1 r2 k2H s2H hBE hgE i0 m0 l0
  generalize bs.map bt = fs at *
  have hcap8 : n0 ≤ 8192 := by omega
  go_wp2_with fail
  go_loopw [6, 7, 34] (fun lv cv si wr => ∃ (i : Nat), i ≤ n0 ∧ si = .int .i64 (i : Int) ∧ Hid (wr.ownsRow w1.heap.size 26 1 lv i (fl (fs.take i))) ∧ Hid (wr.ownsRow w1.heap.size 26 1 cv i (fl ((fs.take i).map (fun x => co .mul x (pw k))))) ∧ Hid (∃ b1 b2, lv.ownBlock = some b1 ∧ cv.ownBlock = some b2 ∧ b1 ≠ b2 ∧ b1 ≠ ge ∧ b2 ≠ ge) ∧ Hid (∀ x ∈ fs.take i, Sd.Ok x) ∧ Hid (wr.heap[ge]? = wE.heap[ge]? ∧ wE.heap.size ≤ wr.heap.size) ∧ Hid (Below w.heap.size w wr)) (fun _ _ si _ => n0 - (RowKit.intOf si).toNat)
  case atStart => exact ⟨0, Nat.zero_le _, rfl, r1E, r2E, hbsE, (fun x hx => by cases hx), ⟨rfl, Nat.le_refl _⟩, kEH⟩
  case round =>
    obtain ⟨i, hin, rfl, O1, O2, hbs, hOk, hge, Bi⟩ := hrel
    clear r1E r2E hbsE kEH
    by_cases hlt : i < n0
    · have hlt' : (i : Int) < (n0 : Int) := by omega
      have hix : i < fs.length := by rw [hell.out]; exact hlt
      have cf : wr.cell? ⟨ge, i, none⟩ = some (.float .f64 (fs.getD i 0)) := (World.cell?_of_block (a := ⟨ge, i, none⟩) hge.out.1).trans ((World.ownsRow.cellAt OEH.out i (by omega)).trans (fl_get hix))
      have hfl : Hid (fs.getD i 0 < 18446744073709551616) := by
        show _ < _
        rw [getD_at hix]; exact hel.out _ (List.getElem_mem hix)
      have htk : Hid (fs.take (i + 1) = fs.take i ++ [fs.getD i 0]) := by show _ = _; rw [List.take_succ_eq_append_getElem hix, getD_at hix]
      have hfsA : Hid (fl (fs.take (i + 1)) = fl (fs.take i) ++ [.float .f64 (fs.getD i 0)]) := by show _ = _; rw [htk.out]; unfold fl; rw [List.map_append]; rfl
      have hfsB : Hid (fl ((fs.take (i + 1)).map (fun x => co .mul x (pw k))) = fl ((fs.take i).map (fun x => co .mul x (pw k))) ++ [.float .f64 (co .mul (fs.getD i 0) (pw k))]) := by show _ = _; rw [htk.out, List.map_append]; unfold fl; rw [List.map_append]; rfl
      have hszE : Hid (wE.heap.size ≤ wr.heap.size) := hge.out.2
      generalize fs.getD i 0 = f at cf hfl htk hfsA hfsB
      obtain ⟨b1, b2, hb1', hb2', n12, n1e, n2e⟩ := hbs.out
      have hb1 : Hid (u6.ownBlock = some b1) := hb1'
      have hb2 : Hid (u7.ownBlock = some b2) := hb2'
      clear hb1' hb2'
      clear hbs hix
      have hst1 := True.intro
      by_cases hz : (FloatKind.f64.format.order f 0 == some .eq) = true
      · have hz2 : (FloatKind.f64.format.order f 0 != some .eq) = false := by simpa [bne] using hz
        have hok : Hid (Sd.Ok f) := ⟨hfl.out, .inl (eq_zero hfl.out hz)⟩
        have Od1 := O1
        have Od2 := O2
        have hged := hge
        have Bd := Bi
        clear O1 O2 hge Bi
        go_upto_region 10 with fail
        clear cf hz hz2
        clear hst1
        have hsz : w1.heap.size ≤ wr.heap.size := by have := (Od1.out.lt b1 hb1.out).2; have := (Od1.out.lt b1 hb1.out).1; omega
        have hgeW : Hid (ge < wr.heap.size) := Nat.lt_of_lt_of_le hgEH.out hged.out.2
        have hco : Hid (∀ W, fr .mul f (pw k) W = co .mul f (pw k)) := fun W => fr_co (Ari.nan_fin (Sd.elem hok.out kb1.out kb2.out).1) W
        have hcol : Hid (co .mul f (pw k) < 18446744073709551616) := co_lt _ _ _
        have hfs1 : Hid (fl (fs.take (i + 1)) = fl (fs.take i) ++ [.float .f64 f]) := hfsA
        have hfs2 : Hid (fl ((fs.take (i + 1)).map (fun x => co .mul x (pw k))) = fl ((fs.take i).map (fun x => co .mul x (pw k))) ++ [.float .f64 (co .mul f (pw k))]) := hfsB
        have hokn : Hid (∀ x ∈ fs.take (i + 1), Sd.Ok x) := fun x hx => by
          rw [htk.out] at hx
          rcases List.mem_append.1 hx with h | h
          · exact hOk.out x h
          · rw [List.mem_singleton.1 h]; exact hok.out
        generalize fl ((fs.take i).map (fun x => co .mul x (pw k))) = LB at Od2 hfs2
        generalize fl (fs.take i) = LA at Od1 hfs1
        generalize hLA2 : fl (fs.take (i + 1)) = LA2 at hfs1
        generalize hLB2 : fl ((fs.take (i + 1)).map (fun x => co .mul x (pw k))) = LB2 at hfs2
        have hLA2H : Hid (fl (fs.take (i + 1)) = LA2) := hLA2
        have hLB2H : Hid (fl ((fs.take (i + 1)).map (fun x => co .mul x (pw k))) = LB2) := hLB2
        clear hLA2 hLB2
        have Od1' := Od1.out
        have il : (i : Int) ≤ 8192 := by omega
        generalize hC : co .mul f (pw k) = C at hco hcol hfs2
        clear hfsA hfsB htk hOk hok hC
        go_wp2_with (at_builtin; refine wpList_append_own_at _ rfl _ _ 24 rfl w1.heap.size 26 q0 (.float .f64 0) 1 8 Try.underlying24 hi0 hz0 hz1 hz2 rfl (by decide) _ _ _ rfl (Od1'.alloc _) ⟨wr.heap.size, 0, none⟩ 1 1 [.float .f64 f] rfl rfl (cell_one_new _ _ _) (by simp [Value.oneCell']) (by unfold maxLen; omega) (by omega) (by simp; omega) ?_)
        intro v5 w5 hown5 hgrow5 hnil5 hat5
        have O5 : Hid (w5.ownsRow w1.heap.size 26 1 v5 (i + 1) LA2) := by rw [hfs1.out]; exact hown5
        have s5 : Hid (wr.heap.size + 1 ≤ w5.heap.size) := by have := hgrow5.size; show _ ≤ _; simpa using this
        have P5 : Hid (w5.ownsRow w1.heap.size 26 1 u7 i LB) := own_grown (Od2.out.alloc _) hgrow5 (fun b hb e => by
          have e1 : b2 = b := Option.some.inj (hb2.out.symm.trans hb)
          have e2 : b = b1 := Option.some.inj (e.trans hb1.out)
          omega)
        have hge5 : Hid (w5.heap[ge]? = wE.heap[ge]?) := (hgrow5.block ge (by have := hgeW.out; simp; omega) (fun e => n1e (Option.some.inj (e.trans hb1.out)).symm)).trans ((Below.heap_alloc wr _ ge hgeW.out).trans hged.out.1)
        have B5 : Hid (Below w.heap.size w w5) := (Bd.out.alloc Bd.out.size _).grown hgrow5 (by simp; have := Bd.out.size; omega) (fun k' hk' => Nat.le_trans k1H.out.size (Od1'.lt k' hk').1)
        obtain ⟨b5, hb5, n52, n5e⟩ : ∃ b5, Hid (v5.ownBlock = some b5) ∧ b5 ≠ b2 ∧ b5 ≠ ge := by
          rcases hat5 with e | e
          · exact ⟨b1, e.trans hb1.out, n12, n1e⟩
          · refine ⟨_, e, ?_, ?_⟩
            · have := (Od2.out.lt b2 hb2.out).2; simp; omega
            · have := hgeW.out; simp; omega
        clear hown5 hgrow5 hnil5 hat5 Od1 Od2 Od1' hfs1 hged Bd hb1 n1e n12
        go_wp2_with fail
        refine (hpow.out _).mono ?_
        rintro e w' ⟨rfl, rfl⟩
        have P5' := P5.out
        have hsz5 : w1.heap.size ≤ w5.heap.size := by have := s5.out; omega
        have hmul : ∀ W, (binOp .mul 26 (.float .f64 f) (.float .f64 (pw k))).run Try.prog W = .ok (.float .f64 C) (W.drewN (fk .mul f (pw k))) := fun W => by rw [run_fmul, hco.out]
        go_wp2_with (at_builtin; refine wpList_append_own_at _ rfl _ _ 24 rfl w1.heap.size 26 q0 (.float .f64 0) 1 8 Try.underlying24 hi0 hz0 hz1 hz2 rfl (by decide) _ _ _ rfl (World.ownsRow.alloc (w := w5.drewN (fk .mul f (pw k))) P5' _) ⟨w5.heap.size, 0, none⟩ 1 1 [.float .f64 C] rfl rfl (cell_one_new (w5.drewN (fk .mul f (pw k))) _ _) (by simp [Value.oneCell']) (by unfold maxLen; omega) (by omega) (by simp; omega) ?_)
        intro v7 w7 hown7 hgrow7 hnil7 hat7
        have O7 : Hid (w7.ownsRow w1.heap.size 26 1 v7 (i + 1) LB2) := by rw [hfs2.out]; exact hown7
        have s7 : Hid (w5.heap.size + 1 ≤ w7.heap.size) := by have := hgrow7.size; show _ ≤ _; simpa using this
        have P7 : Hid (w7.ownsRow w1.heap.size 26 1 v5 (i + 1) LA2) := own_grown (World.ownsRow.alloc (w := w5.drewN (fk .mul f (pw k))) O5.out _) hgrow7 (fun b hb e => by
          have e1 : b5 = b := Option.some.inj (hb5.out.symm.trans hb)
          have e2 : b = b2 := Option.some.inj (e.trans hb2.out)
          omega)
        have hgw5 : ge < w5.heap.size := by have := hgeW.out; have := s5.out; omega
        have hge7 : Hid (w7.heap[ge]? = wE.heap[ge]? ∧ wE.heap.size ≤ w7.heap.size) :=
          ⟨(hgrow7.block ge (by simp; omega) (fun e => n2e (Option.some.inj (e.trans hb2.out)).symm)).trans ((Below.heap_alloc (w5.drewN (fk .mul f (pw k))) _ ge hgw5).trans hge5.out), by have := s7.out; have := s5.out; have := hszE.out; omega⟩
        have B7 : Hid (Below w.heap.size w w7) := ((B5.out.trans (below_drewN w5 (fk .mul f (pw k)))).alloc B5.out.size _).grown hgrow7 (by simp; have := B5.out.size; omega) (fun k' hk' => Nat.le_trans k1H.out.size (P5'.lt k' hk').1)
        have hbs7 : Hid (∃ b1 b2, v5.ownBlock = some b1 ∧ v7.ownBlock = some b2 ∧ b1 ≠ b2 ∧ b1 ≠ ge ∧ b2 ≠ ge) := by
          rcases hat7 with e | e
          · exact ⟨b5, b2, hb5.out, e.trans hb2.out, n52, n5e, n2e⟩
          · refine ⟨b5, _, hb5.out, e, ?_, n5e, ?_⟩
            · have := (O5.out.lt b5 hb5.out).2; simp; omega
            · simp; omega
        clear hown7 hgrow7 hnil7 hat7 hmul O5 P5 P5' B5 hge5
        go_wp2_with fail
        go_roundw
        case rel => exact ⟨i + 1, by omega, by go_num, by rw [hLA2H.out]; exact P7, by rw [hLB2H.out]; exact O7, hbs7, hokn, hge7, B7⟩
        case measure => simp [RowKit.intOf]; omega
      · have hz1' : (FloatKind.f64.format.order f 0 == some .eq) = false := by simpa using hz
        have hz2' : (FloatKind.f64.format.order f 0 != some .eq) = true := by simp [bne, hz1']
        go_wp2_with fail
        refine (within_c f 900 _ hfl.out (by decide) (by decide)).mono ?_
        rintro e wd ⟨bb, rfl, hD, hbb⟩
        have hDB : Hid (Below wr.heap.size wr wd) := by obtain ⟨q, e⟩ := hD; exact below_of_drew e
        have hDh : Hid (wd.heap = wr.heap) := by obtain ⟨q, e⟩ := hD; rw [e]; exact rfl
        have hbbH : Hid (bb = true → nanB f = false ∧ pw (-900) ≤ f % 9223372036854775808 ∧ f % 9223372036854775808 ≤ pw 900) := hbb
        clear hD hbb cf hz hz1' hz2'
        cases bb
        · have Bd : Hid (Below w.heap.size w wd) := Bi.out.trans (hDB.out.mono Bi.out.size)
          go_wp2_with fail
          go_ret
          exact ⟨rfl, Bd.out⟩
        · have hok : Hid (Sd.Ok f) := ⟨hfl.out, .inr (hbbH.out rfl).2⟩
          have Od1 : Hid (wd.ownsRow w1.heap.size 26 1 u6 i (fl (fs.take i))) := own_und O1.out hDB.out
          have Od2 : Hid (wd.ownsRow w1.heap.size 26 1 u7 i (fl ((fs.take i).map (fun x => co .mul x (pw k))))) := own_und O2.out hDB.out
          have hged : Hid (wd.heap[ge]? = wE.heap[ge]? ∧ wE.heap.size ≤ wd.heap.size) := by rw [hDh.out]; exact hge.out
          have Bd : Hid (Below w.heap.size w wd) := Bi.out.trans (hDB.out.mono Bi.out.size)
          have hszE : Hid (wE.heap.size ≤ wd.heap.size) := hged.out.2
          clear O1 O2 hge Bi hDB hDh hbbH
          go_upto_region 10 with fail
          clear hst1
          have hsz : w1.heap.size ≤ wd.heap.size := by have := (Od1.out.lt b1 hb1.out).2; have := (Od1.out.lt b1 hb1.out).1; omega
          have hgeW : Hid (ge < wd.heap.size) := Nat.lt_of_lt_of_le hgEH.out hged.out.2
          have hco : Hid (∀ W, fr .mul f (pw k) W = co .mul f (pw k)) := fun W => fr_co (Ari.nan_fin (Sd.elem hok.out kb1.out kb2.out).1) W
          have hcol : Hid (co .mul f (pw k) < 18446744073709551616) := co_lt _ _ _
          have hfs1 : Hid (fl (fs.take (i + 1)) = fl (fs.take i) ++ [.float .f64 f]) := hfsA
          have hfs2 : Hid (fl ((fs.take (i + 1)).map (fun x => co .mul x (pw k))) = fl ((fs.take i).map (fun x => co .mul x (pw k))) ++ [.float .f64 (co .mul f (pw k))]) := hfsB
          have hokn : Hid (∀ x ∈ fs.take (i + 1), Sd.Ok x) := fun x hx => by
            rw [htk.out] at hx
            rcases List.mem_append.1 hx with h | h
            · exact hOk.out x h
            · rw [List.mem_singleton.1 h]; exact hok.out
          generalize fl ((fs.take i).map (fun x => co .mul x (pw k))) = LB at Od2 hfs2
          generalize fl (fs.take i) = LA at Od1 hfs1
          generalize hLA2 : fl (fs.take (i + 1)) = LA2 at hfs1
          generalize hLB2 : fl ((fs.take (i + 1)).map (fun x => co .mul x (pw k))) = LB2 at hfs2
          have hLA2H : Hid (fl (fs.take (i + 1)) = LA2) := hLA2
          have hLB2H : Hid (fl ((fs.take (i + 1)).map (fun x => co .mul x (pw k))) = LB2) := hLB2
          clear hLA2 hLB2
          have Od1' := Od1.out
          have il : (i : Int) ≤ 8192 := by omega
          generalize hC : co .mul f (pw k) = C at hco hcol hfs2
          clear hfsA hfsB htk hOk hok hC
          go_wp2_with (at_builtin; refine wpList_append_own_at _ rfl _ _ 24 rfl w1.heap.size 26 q0 (.float .f64 0) 1 8 Try.underlying24 hi0 hz0 hz1 hz2 rfl (by decide) _ _ _ rfl (Od1'.alloc _) ⟨wd.heap.size, 0, none⟩ 1 1 [.float .f64 f] rfl rfl (cell_one_new _ _ _) (by simp [Value.oneCell']) (by unfold maxLen; omega) (by omega) (by simp; omega) ?_)
          intro v5 w5 hown5 hgrow5 hnil5 hat5
          have O5 : Hid (w5.ownsRow w1.heap.size 26 1 v5 (i + 1) LA2) := by rw [hfs1.out]; exact hown5
          have s5 : Hid (wd.heap.size + 1 ≤ w5.heap.size) := by have := hgrow5.size; show _ ≤ _; simpa using this
          have P5 : Hid (w5.ownsRow w1.heap.size 26 1 u7 i LB) := own_grown (Od2.out.alloc _) hgrow5 (fun b hb e => by
            have e1 : b2 = b := Option.some.inj (hb2.out.symm.trans hb)
            have e2 : b = b1 := Option.some.inj (e.trans hb1.out)
            omega)
          have hge5 : Hid (w5.heap[ge]? = wE.heap[ge]?) := (hgrow5.block ge (by have := hgeW.out; simp; omega) (fun e => n1e (Option.some.inj (e.trans hb1.out)).symm)).trans ((Below.heap_alloc wd _ ge hgeW.out).trans hged.out.1)
          have B5 : Hid (Below w.heap.size w w5) := (Bd.out.alloc Bd.out.size _).grown hgrow5 (by simp; have := Bd.out.size; omega) (fun k' hk' => Nat.le_trans k1H.out.size (Od1'.lt k' hk').1)
          obtain ⟨b5, hb5, n52, n5e⟩ : ∃ b5, Hid (v5.ownBlock = some b5) ∧ b5 ≠ b2 ∧ b5 ≠ ge := by
            rcases hat5 with e | e
            · exact ⟨b1, e.trans hb1.out, n12, n1e⟩
            · refine ⟨_, e, ?_, ?_⟩
              · have := (Od2.out.lt b2 hb2.out).2; simp; omega
              · have := hgeW.out; simp; omega
          clear hown5 hgrow5 hnil5 hat5 Od1 Od2 Od1' hfs1 hged Bd hb1 n1e n12
          go_wp2_with fail
          refine (hpow.out _).mono ?_
          rintro e w' ⟨rfl, rfl⟩
          have P5' := P5.out
          have hsz5 : w1.heap.size ≤ w5.heap.size := by have := s5.out; omega
          have hmul : ∀ W, (binOp .mul 26 (.float .f64 f) (.float .f64 (pw k))).run Try.prog W = .ok (.float .f64 C) (W.drewN (fk .mul f (pw k))) := fun W => by rw [run_fmul, hco.out]
          go_wp2_with (at_builtin; refine wpList_append_own_at _ rfl _ _ 24 rfl w1.heap.size 26 q0 (.float .f64 0) 1 8 Try.underlying24 hi0 hz0 hz1 hz2 rfl (by decide) _ _ _ rfl (World.ownsRow.alloc (w := w5.drewN (fk .mul f (pw k))) P5' _) ⟨w5.heap.size, 0, none⟩ 1 1 [.float .f64 C] rfl rfl (cell_one_new (w5.drewN (fk .mul f (pw k))) _ _) (by simp [Value.oneCell']) (by unfold maxLen; omega) (by omega) (by simp; omega) ?_)
          intro v7 w7 hown7 hgrow7 hnil7 hat7
          have O7 : Hid (w7.ownsRow w1.heap.size 26 1 v7 (i + 1) LB2) := by rw [hfs2.out]; exact hown7
          have s7 : Hid (w5.heap.size + 1 ≤ w7.heap.size) := by have := hgrow7.size; show _ ≤ _; simpa using this
          have P7 : Hid (w7.ownsRow w1.heap.size 26 1 v5 (i + 1) LA2) := own_grown (World.ownsRow.alloc (w := w5.drewN (fk .mul f (pw k))) O5.out _) hgrow7 (fun b hb e => by
            have e1 : b5 = b := Option.some.inj (hb5.out.symm.trans hb)
            have e2 : b = b2 := Option.some.inj (e.trans hb2.out)
            omega)
          have hgw5 : ge < w5.heap.size := by have := hgeW.out; have := s5.out; omega
          have hge7 : Hid (w7.heap[ge]? = wE.heap[ge]? ∧ wE.heap.size ≤ w7.heap.size) :=
            ⟨(hgrow7.block ge (by simp; omega) (fun e => n2e (Option.some.inj (e.trans hb2.out)).symm)).trans ((Below.heap_alloc (w5.drewN (fk .mul f (pw k))) _ ge hgw5).trans hge5.out), by have := s7.out; have := s5.out; have := hszE.out; omega⟩
          have B7 : Hid (Below w.heap.size w w7) := ((B5.out.trans (below_drewN w5 (fk .mul f (pw k)))).alloc B5.out.size _).grown hgrow7 (by simp; have := B5.out.size; omega) (fun k' hk' => Nat.le_trans k1H.out.size (P5'.lt k' hk').1)
          have hbs7 : Hid (∃ b1 b2, v5.ownBlock = some b1 ∧ v7.ownBlock = some b2 ∧ b1 ≠ b2 ∧ b1 ≠ ge ∧ b2 ≠ ge) := by
            rcases hat7 with e | e
            · exact ⟨b5, b2, hb5.out, e.trans hb2.out, n52, n5e, n2e⟩
            · refine ⟨b5, _, hb5.out, e, ?_, n5e, ?_⟩
              · have := (O5.out.lt b5 hb5.out).2; simp; omega
              · simp; omega
          clear hown7 hgrow7 hnil7 hat7 hmul O5 P5 P5' B5 hge5
          go_wp2_with fail
          go_roundw
          case rel => exact ⟨i + 1, by omega, by go_num, by rw [hLA2H.out]; exact P7, by rw [hLB2H.out]; exact O7, hbs7, hokn, hge7, B7⟩
          case measure => simp [RowKit.intOf]; omega
    · have hlt' : decide ((i : Int) < (n0 : Int)) = false := decide_eq_false (by omega)
      have hin2 : i = n0 := by omega
      subst hin2
      rw [List.take_of_length_le (show fs.length ≤ i by rw [hell.out]; exact Nat.le_refl _)] at O1 O2 hOk
      have hys : Hid ((fs.map (fun x => co .mul x (pw k))).length = i) := by show _ = _; rw [List.length_map, hell.out]
      have hE1 : Hid (Calls Try.prog 12 #[u6] wr (RFb wr (Sm.exB fs))) := exact_c u6 fs wr (fv_own (by rw [hell.out]; exact O1.out) hel.out (by rw [hell.out]; omega))
      have hE2 : Hid (∀ W, Below wr.heap.size wr W → Calls Try.prog 12 #[u7] W (RFb W (Sm.exB (fs.map (fun x => co .mul x (pw k)))))) := fun W hW => exact_c u7 _ W (fv_own (by rw [hys.out]; exact own_und O2.out hW) (fun x hx => by obtain ⟨y, _, rfl⟩ := List.mem_map.1 hx; exact co_lt _ _ _) (by rw [hys.out]; omega))
      have hfn : Hid (nanB (Sm.exB fs) = false) := by
        rw [Wn.exB_fin (fun x hx => (hOk.out x hx).fin)]; exact Sm.nan_exV fs
      have hfinS : Hid (Sm.exB fs % 9223372036854775808 = 0 ∨ (pw (-950) ≤ Sm.exB fs % 9223372036854775808 ∧ Sm.exB fs % 9223372036854775808 ≤ pw 950) → nanB (Sm.exB (fs.map fun x => co .mul x (pw k))) = false ∧ nanB (co .mul (Sm.exB fs) (pw k)) = false ∧ Flo.sv (Sm.exB (fs.map fun x => co .mul x (pw k))) = Flo.sv (co .mul (Sm.exB fs) (pw k))) := fun h => Sd.scaled hOk.out kb1.out kb2.out h
      have hSl : Hid (Sm.exB fs < 18446744073709551616) := Sm.exB_lt fs
      have hYl : Hid (Sm.exB (fs.map fun x => co .mul x (pw k)) < 18446744073709551616) := Sm.exB_lt _
      generalize Sm.exB fs = SS at hE1 hfn hfinS hSl
      generalize Sm.exB (fs.map fun x => co .mul x (pw k)) = YY at hE2 hfinS hYl
      clear O1 O2 hbs hOk OEH hell hys hge
      go_wp2_with fail
      refine hE1.out.mono ?_
      rintro e w4 ⟨x1, rfl, hx1, hb1, k4⟩
      obtain rfl := eq_bt hb1 hfn.out
      have k4H : Hid (Below wr.heap.size wr w4) := k4
      clear hx1 hb1 k4 hE1
      have hmul := @run_fmul Try.prog
      go_wp2_with fail
      refine (hpow.out _).mono ?_
      rintro e w' ⟨rfl, rfl⟩
      have hT : Hid (fr .mul x1 (pw k) w4 < 18446744073709551616 ∧ bt (fr .mul x1 (pw k) w4) = co .mul x1 (pw k)) := ⟨fr_lt _ _ _ _, bt_fr _ _ _ _⟩
      have k5H : Hid (Below wr.heap.size wr (w4.drewN (fk .mul x1 (pw k)))) := k4H.out.trans ((below_drewN w4 (fk .mul x1 (pw k))).mono k4H.out.size)
      go_upto_region 15 with fail
      generalize fr .mul x1 (pw k) w4 = T at *
      generalize w4.drewN (fk .mul x1 (pw k)) = w5 at *
      clear hpow hmul
      by_cases tz : (FloatKind.f64.format.order T 0 == some .eq) = true
      · have tz2 : (FloatKind.f64.format.order T 0 != some .eq) = false := by simpa [bne] using tz
        by_cases sz : (FloatKind.f64.format.order x1 0 == some .eq) = true
        · have sz2 : (FloatKind.f64.format.order x1 0 != some .eq) = false := by simpa [bne] using sz
          have hfact : Hid (nanB YY = false ∧ nanB (co .mul x1 (pw k)) = false ∧ Flo.sv YY = Flo.sv (co .mul x1 (pw k))) := hfinS.out (.inl (eq_zero hSl.out sz))
          have hTe : T = co .mul x1 (pw k) := eq_bt hT.out.2 hfact.out.2.1
          have q : (FloatKind.f64.format.order YY T == some .eq) = true := by
            have hq : FloatKind.f64.format = double := rfl
            rw [hq, eq_iff YY T hYl.out hT.out.1, hTe, hfact.out.1, hfact.out.2.1, hfact.out.2.2]
            simp
          clear hTe
          go_wp2_with fail
          refine (hE2.out _ k5H.out).mono ?_
          rintro e w9 ⟨y, rfl, hy, hby, k9⟩
          obtain rfl := eq_bt hby hfact.out.1
          have k9H : Hid (Below wr.heap.size wr w9) := k5H.out.trans (k9.mono k5H.out.size)
          clear hy hby k9 hE2 hfact hfinS
          go_wp2_with fail
          go_ret
          exact ⟨rfl, Bi.out.trans (k9H.out.mono Bi.out.size)⟩
        · have sz1 : (FloatKind.f64.format.order x1 0 == some .eq) = false := by simpa using sz
          have sz2 : (FloatKind.f64.format.order x1 0 != some .eq) = true := by simp [bne, sz1]
          go_wp2_with fail
          refine (within_c x1 950 _ hSl.out (by decide) (by decide)).mono ?_
          rintro e w7 ⟨bb, rfl, hD, hbb⟩
          have k7H : Hid (Below wr.heap.size wr w7) := by obtain ⟨q, e⟩ := hD; exact k5H.out.trans ((below_of_drew e).mono k5H.out.size)
          have hbbH : Hid (bb = true → nanB x1 = false ∧ pw (-950) ≤ x1 % 9223372036854775808 ∧ x1 % 9223372036854775808 ≤ pw 950) := hbb
          clear hD hbb sz sz1 sz2
          cases bb
          · go_wp2_with fail
            go_ret
            exact ⟨rfl, Bi.out.trans (k7H.out.mono Bi.out.size)⟩
          · have hfact : Hid (nanB YY = false ∧ nanB (co .mul x1 (pw k)) = false ∧ Flo.sv YY = Flo.sv (co .mul x1 (pw k))) := hfinS.out (.inr (hbbH.out rfl).2)
            clear hbbH
            have hTe : T = co .mul x1 (pw k) := eq_bt hT.out.2 hfact.out.2.1
            have q : (FloatKind.f64.format.order YY T == some .eq) = true := by
              have hq : FloatKind.f64.format = double := rfl
              rw [hq, eq_iff YY T hYl.out hT.out.1, hTe, hfact.out.1, hfact.out.2.1, hfact.out.2.2]
              simp
            clear hTe
            go_wp2_with fail
            refine (hE2.out _ k7H.out).mono ?_
            rintro e w9 ⟨y, rfl, hy, hby, k9⟩
            obtain rfl := eq_bt hby hfact.out.1
            have k9H : Hid (Below wr.heap.size wr w9) := k7H.out.trans (k9.mono k7H.out.size)
            clear hy hby k9 hE2 hfact hfinS
            go_wp2_with fail
            go_ret
            exact ⟨rfl, Bi.out.trans (k9H.out.mono Bi.out.size)⟩
      · have tz1 : (FloatKind.f64.format.order T 0 == some .eq) = false := by simpa using tz
        have tz2 : (FloatKind.f64.format.order T 0 != some .eq) = true := by simp [bne, tz1]
        go_wp2_with fail
        refine (within_c T 950 _ hT.out.1 (by decide) (by decide)).mono ?_
        rintro e w6 ⟨bb, rfl, hD, hbb⟩
        have k6H : Hid (Below wr.heap.size wr w6) := by obtain ⟨q, e⟩ := hD; exact k5H.out.trans ((below_of_drew e).mono k5H.out.size)
        clear hD hbb
        cases bb
        · go_wp2_with fail
          go_ret
          exact ⟨rfl, Bi.out.trans (k6H.out.mono Bi.out.size)⟩
        · have hone := True.intro
          by_cases sz : (FloatKind.f64.format.order x1 0 == some .eq) = true
          · have sz2 : (FloatKind.f64.format.order x1 0 != some .eq) = false := by simpa [bne] using sz
            have hfact : Hid (nanB YY = false ∧ nanB (co .mul x1 (pw k)) = false ∧ Flo.sv YY = Flo.sv (co .mul x1 (pw k))) := hfinS.out (.inl (eq_zero hSl.out sz))
            have hTe : T = co .mul x1 (pw k) := eq_bt hT.out.2 hfact.out.2.1
            have q : (FloatKind.f64.format.order YY T == some .eq) = true := by
              have hq : FloatKind.f64.format = double := rfl
              rw [hq, eq_iff YY T hYl.out hT.out.1, hTe, hfact.out.1, hfact.out.2.1, hfact.out.2.2]
              simp
            clear hTe
            go_wp2_with fail
            refine (hE2.out _ k6H.out).mono ?_
            rintro e w9 ⟨y, rfl, hy, hby, k9⟩
            obtain rfl := eq_bt hby hfact.out.1
            have k9H : Hid (Below wr.heap.size wr w9) := k6H.out.trans (k9.mono k6H.out.size)
            clear hy hby k9 hE2 hfact hfinS
            go_wp2_with fail
            go_ret
            exact ⟨rfl, Bi.out.trans (k9H.out.mono Bi.out.size)⟩
          · have sz1 : (FloatKind.f64.format.order x1 0 == some .eq) = false := by simpa using sz
            have sz2 : (FloatKind.f64.format.order x1 0 != some .eq) = true := by simp [bne, sz1]
            go_wp2_with fail
            refine (within_c x1 950 _ hSl.out (by decide) (by decide)).mono ?_
            rintro e w7 ⟨bb, rfl, hD, hbb⟩
            have k7H : Hid (Below wr.heap.size wr w7) := by obtain ⟨q, e⟩ := hD; exact k6H.out.trans ((below_of_drew e).mono k6H.out.size)
            have hbbH : Hid (bb = true → nanB x1 = false ∧ pw (-950) ≤ x1 % 9223372036854775808 ∧ x1 % 9223372036854775808 ≤ pw 950) := hbb
            clear hD hbb sz sz1 sz2
            cases bb
            · go_wp2_with fail
              go_ret
              exact ⟨rfl, Bi.out.trans (k7H.out.mono Bi.out.size)⟩
            · have hfact : Hid (nanB YY = false ∧ nanB (co .mul x1 (pw k)) = false ∧ Flo.sv YY = Flo.sv (co .mul x1 (pw k))) := hfinS.out (.inr (hbbH.out rfl).2)
              clear hbbH
              have hTe : T = co .mul x1 (pw k) := eq_bt hT.out.2 hfact.out.2.1
              have q : (FloatKind.f64.format.order YY T == some .eq) = true := by
                have hq : FloatKind.f64.format = double := rfl
                rw [hq, eq_iff YY T hYl.out hT.out.1, hTe, hfact.out.1, hfact.out.2.1, hfact.out.2.2]
                simp
              clear hTe
              go_wp2_with fail
              refine (hE2.out _ k7H.out).mono ?_
              rintro e w9 ⟨y, rfl, hy, hby, k9⟩
              obtain rfl := eq_bt hby hfact.out.1
              have k9H : Hid (Below wr.heap.size wr w9) := k7H.out.trans (k9.mono k7H.out.size)
              clear hy hby k9 hE2 hfact hfinS
              go_wp2_with fail
              go_ret
              exact ⟨rfl, Bi.out.trans (k9H.out.mono Bi.out.size)⟩
end Go.Proofs.Ytmfnjmgdindlaaa
