/-
  The walk of the statement TextShortest.
-/
import Derived.Test.YtmfnjmgdindlaaaDoorCtw
import Derived.Test.YtmfnjmgdindlaaaDoorRf3
import Derived.Test.YtmfnjmgdindlaaaDoorLy3
import Derived.Test.YtmfnjmgdindlaaaDoorRef
namespace Go.Proofs.YtmfnjmgdindlaaaDoor
open Flo Go.RowKit Go.Maps
/-- a list of ints that came in -/
def InL (w : World) (ao : Option Addr) (len : Nat) : Prop := ∀ i, i < len → ∃ q off z, ao = some ⟨q, off, none⟩ ∧ q < w.heap.size ∧ w.cell? ⟨q, off + i, none⟩ = some (.int .i64 z)
theorem nan_of_sub {b X : Nat} (hb : b < 18446744073709551616) (hX : bt b = X) (w : World) (h : FloatKind.f64.format.order (fr .sub X X w) 0 = some .eq) : X % 9223372036854775808 < 9218868437227405312 := by
  apply Nat.lt_of_not_le
  intro hc
  have h3 : X = 9221120237041090560 ∨ X = 9218868437227405312 ∨ X = 18442240474082181120 := by
    by_cases n : nanB b = true
    · rw [bt_nan n] at hX; exact .inl hX.symm
    · have n' : nanB b = false := by simpa using n
      rw [bt_fin n'] at hX
      subst hX
      unfold nanB at n'
      have := of_decide_eq_false n'
      omega
  have h4 : floatBits .sub .f64 X X = none := by
    rcases h3 with rfl | rfl | rfl <;> decide +kernel
  have h5 : fr .sub X X w = nanAt w X X := by unfold fr; rw [h4]
  rw [h5] at h
  have h6 := nanAt_nan w X X
  unfold nanB at h6
  have h7 := order_nan_left (nanAt w X X) 0 (of_decide_eq_true h6)
  have h8 : FloatKind.f64.format.order (nanAt w X X) 0 = Ieee.double.order (nanAt w X X) 0 := rfl
  rw [h8, h7] at h
  cases h
theorem ord_zero {X : Nat} (hX : X < 18446744073709551616) (h : ¬ FloatKind.f64.format.order X 0 = some .eq) : X % 9223372036854775808 ≠ 0 := by
  intro e
  have : X = 0 ∨ X = 9223372036854775808 := by omega
  rcases this with rfl | rfl
  · exact h (by decide +kernel)
  · exact h (by decide +kernel)
theorem ord_sign {X : Nat} (hX : X < 18446744073709551616) (hf : X % 9223372036854775808 < 9218868437227405312) (h0 : X % 9223372036854775808 ≠ 0) : (FloatKind.f64.format.order X 0 == some .lt) = decide (9223372036854775808 ≤ X) := by
  have h1 : FloatKind.f64.format.order X 0 = some (compare (sv X) (sv 0)) := order_of X 0 hX (by decide) (by omega) (by decide)
  rw [h1]
  have h2 : sv 0 = 0 := by decide
  rw [h2]
  by_cases c : 9223372036854775808 ≤ X
  · rw [decide_eq_true c]
    have : sv X < 0 := by unfold sv; rw [if_neg (by omega)]; omega
    rw [Int.compare_eq_lt.2 this]; rfl
  · rw [decide_eq_false c]
    have : 0 < sv X := by unfold sv; rw [if_pos (by omega)]; omega
    rw [Int.compare_eq_gt.2 this]; rfl
theorem FN.tlen {b : Nat} {txt r : List UInt8} {x : Int} (h : FN b txt r x) : txt.length ≤ 100 := by
  have h1 := h.ds.len
  have h2 : (dtd r).length ≤ r.length + 1 := by unfold dtd; split; omega; simp; omega
  have h3 : (if x < 0 then ([45] : List UInt8) else []).length ≤ 1 := by split <;> simp
  have h4 : (if decide (9223372036854775808 ≤ b) then ([45] : List UInt8) else []).length ≤ 1 := by split <;> simp
  have h5 := h.len
  rw [h.tx]
  unfold exl
  rw [List.length_append, List.length_append, List.length_cons, List.length_append]
  omega
theorem own_bl {B n size : Nat} {e : TypeId} {v : Value} {xs : List Value} {w w' : World} (h : w.ownsRow B e size v n xs) (hb : Below w.heap.size w w') : w'.ownsRow B e size v n xs := by
  have hl := h.lt
  obtain ⟨h1, h2⟩ := h
  refine ⟨h1, ?_⟩
  rcases h2 with h2 | ⟨g, cap, cur, rfl, h3, h4, h5⟩
  · exact .inl h2
  · exact .inr ⟨g, cap, cur, rfl, h3, (hb.block g (hl g rfl).2).trans h4, h5⟩
theorem n10 (z : Int) : ∃ n : Nat, n ≤ 9 ∧ wrap64 ((IntKind.u64.wrap z).tmod 10) = (n : Int) := by
  refine ⟨(z % 18446744073709551616 % 10).toNat, by omega, ?_⟩
  rw [IntKind.wrap_u64, Int.tmod_eq_emod_of_nonneg (by omega)]
  unfold wrap64
  omega
set_option maxRecDepth 100000 in
set_option maxHeartbeats 8000000 in
theorem short_w (b o : Nat) (ao : Option Addr) (len cap : Nat) (x : Int) (w : World) (ra ta : Addr) (hb : Hid (b < 18446744073709551616)) (ho : Hid (o < 18446744073709551616)) (hI : Hid (InL w ao len)) (he : Hid (E2 w ra ta)) (htb : Hid (Tb w)) :
    Calls Tryd.prog 3 #[.int .u64 b, .int .u64 o, .slice ao len cap, .int .i64 x] w fun e w' => e = .returned (.bool true) ∧ Below w.heap.size w w' := by
  obtain ⟨X, hX⟩ : ∃ X, Hid (bt b = X) := ⟨_, rfl⟩
  obtain ⟨Y, hY⟩ : ∃ Y, Hid (bt o = Y) := ⟨_, rfl⟩
  have hbt : Hid (X < 18446744073709551616) := by rw [← hX.out]; exact bt_lt hb.out
  have hot : Hid (Y < 18446744073709551616) := by rw [← hY.out]; exact bt_lt ho.out
  have hXX : Hid (bt X = X) := by rw [← hX.out]; exact bt_bt b
  have hYY : Hid (bt Y = Y) := by rw [← hY.out]; exact bt_bt o
  obtain ⟨i0, hi0, hz0, hz1, hz2⟩ := info_parts infoInt
  go_enter Tryd.func3, Tryd.ntmps3
  go_wp2_with fail
  refine Calls.mono (lives_c w (ev ta) (ev ra) he.out.text he.out.range htb) ?_
  rintro e w1 ⟨rfl, hb1⟩
  have b1 : Hid (Below w.heap.size w w1) := hb1
  have t1 : Hid (Tb w1) := htb.out.below hb1
  clear hb1
  go_wp2_with fail
  refine Calls.mono (natFloat_c b w1 hb.out) ?_
  rw [hX.out]
  rintro e w' ⟨rfl, rfl⟩
  go_wp2_with fail
  refine Calls.mono (natFloat_c o w1 ho.out) ?_
  rw [hY.out]
  rintro e w' ⟨rfl, rfl⟩
  go_wp2_with fail
  refine Calls.mono (plain_c X w1 t1 hbt.out) ?_
  rw [hXX.out]
  rintro e w2 ⟨txt, rfl, hPT, hb2⟩
  have hP : Hid (PT X txt) := hPT
  have b2 : Hid (Below w.heap.size w w2) := b1.out.trans (hb2.mono b1.out.size)
  have t2 : Hid (Tb w2) := t1.out.below hb2
  clear hb2 b1 hPT t1
  go_wp2_with fail
  refine Calls.mono (plain_c Y w2 t2 hot.out) ?_
  rw [hYY.out]
  rintro e w3 ⟨txt', rfl, hPT, hb3⟩
  have hP' : Hid (PT Y txt') := hPT
  have b3 : Hid (Below w.heap.size w w3) := b2.out.trans (hb3.mono b2.out.size)
  clear hb3 b2 hPT t2
  go_wp2_with fail
  refine Calls.mono (rsame_c X Y w3 hbt.out hot.out) ?_
  rw [hXX.out, hYY.out]
  rintro e w' ⟨rfl, rfl⟩
  obtain ⟨c0, q0⟩ : ∃ c0, ((X : Int) == (Y : Int)) = c0 := ⟨_, rfl⟩
  have q1 : ((B txt).toList == (B txt').toList) = c0 := by
    rw [B_toList, B_toList, ← q0]
    by_cases e : X = Y
    · have h1 := hP'.out
      rw [← e] at h1
      rw [PT_uniq hP.out h1, e]; simp
    · have h1 : ¬ txt = txt' := fun h => e (PT_inj hbt.out hot.out hP.out (h ▸ hP'.out))
      rw [beq_eq_false_iff_ne.2 h1]
      exact (beq_eq_false_iff_ne.2 (by omega)).symm
  have hq2 : (c0 == c0) = true := by cases c0 <;> rfl
  obtain ⟨D, hD⟩ : ∃ D, fr .sub X X w3 = D := ⟨_, rfl⟩
  obtain ⟨w4, hw4⟩ : ∃ w4, w3.drewN (fk .sub X X) = w4 := ⟨_, rfl⟩
  have hsub : ∀ t, (binOp .sub t (.float .f64 X) (.float .f64 X)).run Tryd.prog w3 = .ok (.float .f64 D) w4 := fun t => by rw [← hD, ← hw4]; exact run_fsub t X X w3
  have b4 : Hid (Below w.heap.size w w4) := by rw [← hw4]; exact below_drewN b3.out _
  have hfin : Hid (FloatKind.f64.format.order D 0 = some .eq → X % 9223372036854775808 < 9218868437227405312) := fun h => nan_of_sub hb.out hX.out w3 (hD ▸ h)
  clear hD hw4 b3 hX hY hXX hYY hP'
  by_cases d0 : FloatKind.f64.format.order D 0 = some .eq
  rotate_left
  · go_wp2
    all_goals (go_ret; exact ⟨rfl, b4.out⟩)
  by_cases x0 : FloatKind.f64.format.order X 0 = some .eq
  · go_wp2
    all_goals (go_ret; exact ⟨rfl, b4.out⟩)
  by_cases l0 : (len : Int) < 1
  · go_wp2
    all_goals (go_ret; exact ⟨rfl, b4.out⟩)
  by_cases l1 : (len : Int) > 300
  · go_wp2
    all_goals (go_ret; exact ⟨rfl, b4.out⟩)
  by_cases x1 : x < -2000
  · go_wp2
    all_goals (go_ret; exact ⟨rfl, b4.out⟩)
  by_cases x2 : x > 2000
  · go_wp2
    all_goals (go_ret; exact ⟨rfl, b4.out⟩)
  obtain ⟨r, y, hN⟩ := fn_of hbt.out (hfin.out d0) (ord_zero hbt.out x0) hP.out
  have hN' : Hid (FN X txt r y) := hN
  obtain ⟨sb, hsb⟩ : ∃ sb, Hid (decide (9223372036854775808 ≤ X) = sb) := ⟨_, rfl⟩
  have hlt0 : (FloatKind.f64.format.order X 0 == some .lt) = sb := (ord_sign hbt.out (hfin.out d0) (ord_zero hbt.out x0)).trans hsb.out
  have l0' : decide ((len : Int) < 1) = false := decide_eq_false l0
  have l1' : decide ((len : Int) > 300) = false := decide_eq_false l1
  have x1' : decide (x < -2000) = false := decide_eq_false x1
  have x2' : decide (x > 2000) = false := decide_eq_false x2
  have x0' : (FloatKind.f64.format.order X 0 == some .eq) = false := by simpa using x0
  have E4 : Hid (InL w4 ao len) := fun i hi => by
    obtain ⟨q, off, z, e, hq, hc⟩ := hI.out i hi
    exact ⟨q, off, z, e, Nat.lt_of_lt_of_le hq b4.out.size, (b4.out.cell (p := ⟨q, off + i, none⟩) hq).trans hc⟩
  have hle : len ≤ 300 := by omega
  have hle1 : 1 ≤ len := by omega
  clear hN hfin hI hb ho htb hP
  go_wp2_with fail
  clear hsub q0 q1 hq2
  go_loopw [13, 65] (fun sl si wx => ∃ (i : Nat) (zs : List Nat), i ≤ len ∧ si = .int .i64 (i : Int) ∧ Hid (zs.length = i) ∧ Hid (∀ z ∈ zs, z ≤ 9) ∧ Hid (wx.ownsRow w4.heap.size 3 1 sl i (il zs)) ∧ Hid (sl.ownBlock ≠ none) ∧ Hid (Below w4.heap.size w4 wx)) (fun _ si _ => len - (RowKit.intOf si).toNat)
  case atStart => exact ⟨0, [], Nat.zero_le _, rfl, rfl, (fun z hz => by simp at hz), emptyC w4, (fun h => by cases h), (Below.refl _ w4).alloc (Nat.le_refl _) _⟩
  case round =>
    obtain ⟨i, zs, hil, rfl, hzl, hz9, O, hne, Bw⟩ := hrel
    by_cases hlt : i < len
    · have hlt' : (i : Int) < (len : Int) := by omega
      obtain ⟨q, off, z, rfl, hq, hc⟩ := E4.out i hlt
      have cz := (Bw.out.cell (p := ⟨q, off + i, none⟩) hq).trans hc
      obtain ⟨n, hn9, hn⟩ := n10 z
      have O' := O.out
      have hs1 := Bw.out.size
      clear hc E4
      go_wp2_with (at_builtin; (try rw [hn]); refine wpList_append_own_at _ rfl _ _ 23 rfl w4.heap.size 3 i0 (.int .i64 0) 1 8 Tryd.underlying23 hi0 hz0 hz1 hz2 rfl (by decide) _ _ _ rfl (O'.alloc _) ⟨wr.heap.size, 0, none⟩ 1 1 [.int .i64 (n : Int)] rfl rfl (cell_one_new _ _ _) (by simp [Value.oneCell']) (by unfold maxLen; omega) (by omega) (by simp; omega) ?_)
      intro v' w5 hown' hgrow hnil hat
      have O5 : Hid (w5.ownsRow w4.heap.size 3 1 v' (i + 1) (il (zs ++ [n]))) := by
        rw [il_snoc]; exact hown'
      have B5 : Hid (Below w4.heap.size w4 w5) := (Bw.out.alloc hs1 _).grown hgrow (by simp; omega) (fun k hk => (O'.lt k hk).1)
      have n5 : Hid (v'.ownBlock ≠ none) := fun h => by
        rcases hat with e | e
        · exact hne.out (e ▸ h)
        · rw [e] at h; cases h
      have l5 : Hid ((zs ++ [n]).length = i + 1) := by show _ = _; rw [List.length_append, hzl.out]; rfl
      have z5 : Hid (∀ z ∈ zs ++ [n], z ≤ 9) := fun z hz => by
        rcases List.mem_append.1 hz with h | h
        · exact hz9.out z h
        · rw [List.mem_singleton.1 h]; exact hn9
      clear hown' hgrow hat O' hnil O Bw hne hzl hz9 hn
      go_wp2_with fail
      go_roundw
      case rel => exact ⟨i + 1, zs ++ [n], by omega, by go_num, l5, z5, O5, n5, B5⟩
      case measure => simp [RowKit.intOf]; omega
    · have hlt' : decide ((i : Int) < (len : Int)) = false := decide_eq_false (by omega)
      have hil' : i = len := by omega
      subst hil'
      obtain ⟨g, cp, e5, hgc⟩ : ∃ g cp, u13 = .slice (some ⟨g, 0, none⟩) i cp ∧ i ≤ cp := by
        rcases O.out.2 with ⟨e, _⟩ | ⟨g, cp, cur, e, _, _, h3, _⟩
        · exact absurd (by rw [e]; rfl) hne.out
        · exact ⟨g, cp, e, h3⟩
      subst e5
      clear hne E4
      have hL : Hid (dcount txt = r.length) := hN'.out.cnt
      obtain ⟨L, hL2⟩ : ∃ L, Hid (r.length = L) := ⟨_, rfl⟩
      have hL19 : L ≤ 19 := by rw [← hL2.out]; exact hN'.out.len
      have hdig : Hid (∀ W, Calls Tryd.prog 8 #[.string (B txt)] W fun e w' => e = .returned (.int .i64 (L : Int)) ∧ W = w') := fun W => by
        have := digits_c txt W (Nat.le_trans hN'.out.tlen (by decide))
        rw [hL.out, hL2.out] at this
        exact this
      go_wp2_with fail
      go_loopw [16] (fun sn wx => ∃ n : Nat, 1 ≤ n ∧ n ≤ i + 1 ∧ sn = .int .i64 (n : Int) ∧ Hid (wx.ownsRow w4.heap.size 3 1 (.slice (some ⟨g, 0, none⟩) i cp) i (il zs)) ∧ Hid (Below w4.heap.size w4 wx)) (fun sn _ => i + 1 - (RowKit.intOf sn).toNat)
      case atStart => exact ⟨1, Nat.le_refl _, by omega, rfl, O, Bw⟩
      case round =>
        obtain ⟨n, hn1, hni, rfl, On, Bn⟩ := hrel
        clear O Bw
        have Bz : Hid (Below w.heap.size w wr) := b4.out.trans (Bn.out.mono b4.out.size)
        by_cases hn : n ≤ i
        · have hn' : (n : Int) ≤ (i : Int) := by omega
          go_wp2_with fail
          refine (hdig.out _).mono ?_
          rintro e w' ⟨rfl, rfl⟩
          by_cases hnL : n < L
          · have hnL' : (n : Int) < (L : Int) := by omega
            have hnc : (n : Int) ≤ (cp : Int) := by omega
            obtain ⟨f, hf⟩ : ∃ f : Nat → Nat, Hid ((fun j => zs.getD j 0) = f) := ⟨_, (rfl : _ = _)⟩
            have hR1 : Hid (Row 3 .i64 wr w4.heap.size (.slice (some ⟨g, 0, none⟩) n cp) n f) := by rw [← hf.out]; exact own_less On.out hzl.out hn
            have h9 : Hid (∀ j, j < n → f j ≤ 9) := fun j hj => by
              have hjl : j < zs.length := by rw [hzl.out]; omega
              rw [← hf.out]
              show zs.getD j 0 ≤ 9
              rw [show zs.getD j 0 = zs[j] by simp [List.getD, hjl]]
              exact hz9.out _ (List.getElem_mem hjl)
            go_wp2_with fail
            refine (writtenL_c sb n f w4.heap.size g cp x wr hR1 h9 (by omega) (by omega) (by omega)).mono ?_
            rintro e w5 ⟨el, rfl, hel, B5⟩
            have B5z : Hid (Below w.heap.size w w5) := Bz.out.trans (B5.mono Bz.out.size)
            have B5n : Hid (Below w4.heap.size w4 w5) := Bn.out.trans (B5.mono Bn.out.size)
            have O5 : Hid (w5.ownsRow w4.heap.size 3 1 (.slice (some ⟨g, 0, none⟩) i cp) i (il zs)) := own_bl On.out B5
            obtain ⟨T, hT⟩ : ∃ T, Hid (B ((if sb then [45] else []) ++ wrd f n ++ exl x el) = T) := ⟨_, (rfl : B ((if sb then [45] else []) ++ wrd f n ++ exl x el) = _)⟩
            have hpp : Hid (Calls Tryd.prog 9 #[.string T] w5 fun e w' => ∃ h e', e = .returned (.tuple #[.float .f64 h, e']) ∧ (e' = ev ra ∨ (e' = .nilIface ∧ (FloatKind.f64.format.order h X == some .eq) = false)) ∧ Below w5.heap.size w5 w') := by
              have z1 := (B5z.out.cell (p := ⟨0, 0, none⟩) (World.block_lt_of_cell? w _ he.out.text)).trans he.out.text
              have z2 := (B5z.out.cell (p := ⟨1, 0, none⟩) (World.block_lt_of_cell? w _ he.out.range)).trans he.out.range
              rw [← hT.out]
              refine (parsePlain_c _ w5 (ev ta) (ev ra) z1 z2).mono ?_
              rintro e w' ⟨v, rfl, hv, hB⟩
              rw [wrd_dtd, ← hsb.out] at hv
              have hl := hN'.out.less (dgl f n) _ x (ev ta) (ev ra) v (dgl_dig h9.out) (fun e => by have := dgl_len f n; rw [e] at this; simp at this; omega) (by rw [dgl_len, hL2.out]; exact hnL) hel hv
              rcases hl with rfl | ⟨s, rfl, _, ho⟩
              · exact ⟨_, _, rfl, .inl rfl, hB⟩
              · exact ⟨_, _, rfl, .inr ⟨rfl, by simpa using ho⟩, hB⟩
            rw [hT.out]
            clear hel B5 hT hR1 h9 On Bn Bz hf
            go_wp2_with fail
            refine hpp.out.mono ?_
            rintro e w6 ⟨h, e', rfl, hcase, B6⟩
            have B6n : Hid (Below w4.heap.size w4 w6) := B5n.out.trans (B6.mono B5n.out.size)
            have O6 : Hid (w6.ownsRow w4.heap.size 3 1 (.slice (some ⟨g, 0, none⟩) i cp) i (il zs)) := own_bl O5.out B6
            have e1 := ev_nil ra
            have e2 := ev_guard ra
            clear B6 hpp O5 B5n B5z
            rcases hcase with rfl | ⟨rfl, ho⟩
            · go_wp2_with fail
              go_roundw
              case rel => exact ⟨n + 1, by omega, by omega, by go_num, O6, B6n⟩
              case measure => simp [RowKit.intOf]; omega
            · go_wp2_with fail
              go_roundw
              case rel => exact ⟨n + 1, by omega, by omega, by go_num, O6, B6n⟩
              case measure => simp [RowKit.intOf]; omega
          · have hnL' : decide ((n : Int) < (L : Int)) = false := decide_eq_false (by omega)
            go_wp2_with fail
            have z1 := (Bz.out.cell (p := ⟨0, 0, none⟩) (World.block_lt_of_cell? w _ he.out.text)).trans he.out.text
            have z2 := (Bz.out.cell (p := ⟨1, 0, none⟩) (World.block_lt_of_cell? w _ he.out.range)).trans he.out.range
            refine (cut_c X txt r y _ (ev ta) ra hN'.out sb hsb hlt0 z1 z2).mono ?_
            clear z1 z2
            rintro e w6 ⟨rfl, B6⟩
            have B7 : Hid (Below w.heap.size w w6) := Bz.out.trans (B6.mono Bz.out.size)
            clear B6
            go_wp2_with fail
            go_ret
            exact ⟨rfl, B7.out⟩
        · have hn' : decide ((n : Int) ≤ (i : Int)) = false := decide_eq_false (by omega)
          go_wp2_with fail
          have z1 := (Bz.out.cell (p := ⟨0, 0, none⟩) (World.block_lt_of_cell? w _ he.out.text)).trans he.out.text
          have z2 := (Bz.out.cell (p := ⟨1, 0, none⟩) (World.block_lt_of_cell? w _ he.out.range)).trans he.out.range
          refine (cut_c X txt r y _ (ev ta) ra hN'.out sb hsb hlt0 z1 z2).mono ?_
          clear z1 z2
          rintro e w6 ⟨rfl, B6⟩
          have B7 : Hid (Below w.heap.size w w6) := Bz.out.trans (B6.mono Bz.out.size)
          clear B6
          go_wp2_with fail
          go_ret
          exact ⟨rfl, B7.out⟩
end Go.Proofs.YtmfnjmgdindlaaaDoor
