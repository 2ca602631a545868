/-
  cut: the text without its last digit, and one up.
-/
import Derived.Test.YtmfnjmgdindlaaaDoorRdl
import Derived.Test.YtmfnjmgdindlaaaDoorWrl
import Derived.Test.YtmfnjmgdindlaaaDoorIln
import Derived.Test.YtmfnjmgdindlaaaDoorGrx
import Derived.Maps.AppendAt
import Derived.Deep.RegionHeld3
namespace Go.Proofs.YtmfnjmgdindlaaaDoor
open Flo Go.RowKit Go.Maps
theorem emptyC (w : World) : (w.alloc (.cells #[] 3)).ownsRow w.heap.size 3 1 (.slice (some ⟨w.heap.size, 0, none⟩) 0 0) 0 [] :=
  ⟨rfl, .inr ⟨w.heap.size, 0, #[], rfl, Nat.le_refl _, heap_alloc_new w _, Nat.le_refl _, Nat.zero_le _, rfl, rfl⟩⟩
/-- the digits' values -/
def dvs (l : List UInt8) : List Nat := (l.filter Dg.isD).map fun c => c.toNat - 48
theorem dvs_take_yes {l : List UInt8} {i : Nat} {c : UInt8} (h : l[i]? = some c) (hd : Dg.isD c = true) : dvs (l.take (i + 1)) = dvs (l.take i) ++ [c.toNat - 48] := by
  unfold dvs
  rw [List.take_add_one, h, List.filter_append, List.map_append]
  simp [hd]
theorem dvs_take_no {l : List UInt8} {i : Nat} {c : UInt8} (h : l[i]? = some c) (hd : ¬ Dg.isD c = true) : dvs (l.take (i + 1)) = dvs (l.take i) := by
  unfold dvs
  rw [List.take_add_one, h, List.filter_append, List.map_append]
  simp [hd]
theorem dvs_len (l : List UInt8) (i : Nat) : (dvs (l.take i)).length ≤ i := by
  unfold dvs
  rw [List.length_map]
  have := List.length_filter_le Dg.isD (l.take i)
  have h2 : (l.take i).length ≤ i := by simp; omega
  omega
/-- what lies ahead of the e -/
structure Ahd (txt d : List UInt8) (r : List UInt8) : Prop where
  tx : ∃ u, txt = d ++ 101 :: u
  no : ∀ c ∈ d, c ≠ 101
  dg : dvs d = r.map fun c => c.toNat - 48
theorem FN.ahead {b : Nat} {txt r : List UInt8} {x : Int} (h : FN b txt r x) : Ahd txt ((if decide (9223372036854775808 ≤ b) then [45] else []) ++ dtd r) r := by
  have h1 : ∀ c ∈ dtd r, c = 46 ∨ c ∈ r := by
    unfold dtd
    split
    · exact fun c hc => .inr hc
    · intro c hc
      simp only [List.mem_append, List.mem_singleton] at hc
      rcases hc with (hc | hc) | hc
      · exact .inr (List.mem_of_mem_take hc)
      · exact .inl hc
      · exact .inr (List.mem_of_mem_drop hc)
  have h2 : (dtd r).filter Dg.isD = r := by
    unfold dtd
    split
    · exact List.filter_eq_self.2 h.dig
    · rw [List.filter_append, List.filter_append, List.filter_eq_self.2 fun c hc => h.dig c (List.mem_of_mem_take hc), List.filter_eq_self.2 fun c hc => h.dig c (List.mem_of_mem_drop hc), show ([46] : List UInt8).filter Dg.isD = [] by decide, List.append_nil, List.take_append_drop]
  refine ⟨⟨_, h.tx⟩, ?_, ?_⟩
  · intro c hc
    rcases List.mem_append.1 hc with hc | hc
    · split at hc
      · rw [List.mem_singleton.1 hc]; decide
      · simp at hc
    · rcases h1 c hc with rfl | hc
      · decide
      · exact (isD_ne (h.dig c hc)).1
  · unfold dvs
    rw [List.filter_append, h2]
    split
    · rfl
    · rfl
/-- a row without its last places -/
theorem own_less {w : World} {B q p g cap : Nat} {zs : List Nat} (h : w.ownsRow B 3 1 (.slice (some ⟨g, 0, none⟩) q cap) q (il zs)) (hz : zs.length = q) (hp : p ≤ q) : Row 3 .i64 w B (.slice (some ⟨g, 0, none⟩) p cap) p (fun j => zs.getD j 0) := by
  rcases h.2 with ⟨e, _⟩ | ⟨g', cap', cur, e, h1, h2, h3, h4, h5, h6⟩
  · cases e
  · cases e
    refine ⟨by simp [Cl, Wd.tab], .inr ⟨g, cap, cur, rfl, h1, h2, by omega, h4, h5, ?_⟩⟩
    have e2 : cur.toList.take (p * 1) = (cur.toList.take (q * 1)).take p := by rw [List.take_take]; congr 1; omega
    rw [e2, h6]
    apply List.ext_getElem?
    intro j
    by_cases hj : j < p
    · rw [Cl_get .i64 _ hj, List.getElem?_take, if_pos hj, il_get zs j (by omega)]
    · rw [List.getElem?_eq_none (by rw [List.length_take]; omega), List.getElem?_eq_none (by rw [Cl_len]; omega)]
theorem dgl_dig {f : Nat → Nat} {k : Nat} (h : ∀ j, j < k → f j ≤ 9) : ∀ c ∈ dgl f k, Dg.isD c = true := by
  intro c hc
  unfold dgl at hc
  obtain ⟨d, hd, rfl⟩ := List.mem_map.1 hc
  obtain ⟨j, hj, rfl⟩ := List.mem_map.1 (show d ∈ (List.range k).map f from hd)
  exact isD_of (Nat.lt_succ_of_le (h j (List.mem_range.1 hj)))
theorem wrd_dtd (f : Nat → Nat) (k : Nat) : wrd f k = dtd (dgl f k) := by
  unfold wrd dtd
  rw [dgl_len]
set_option maxRecDepth 100000 in
set_option maxHeartbeats 4000000 in
theorem cut_c (b : Nat) (txt r : List UInt8) (x : Int) (w : World) (et : Value) (ra : Addr) (hN : FN b txt r x) (sb : Bool) (hsb : Hid (decide (9223372036854775808 ≤ b) = sb)) (hlt0 : (FloatKind.f64.format.order b 0 == some .lt) = sb) (hgt : w.cell? ⟨0, 0, none⟩ = some et) (hgr : w.cell? ⟨1, 0, none⟩ = some (ev ra)) :
    Calls Tryd.prog 11 #[.float .f64 b, .string (B txt)] w fun e w' => e = .returned (.bool true) ∧ Below w.heap.size w w' := by
  have hN' : Hid (FN b txt r x) := hN
  obtain ⟨⟨u, hu⟩, hno, hdg⟩ := hN.ahead
  have hx := hN.tx
  obtain ⟨d, hd⟩ : ∃ d, Hid ((if decide (9223372036854775808 ≤ b) then ([45] : List UInt8) else []) ++ dtd r = d) := ⟨_, rfl⟩
  rw [hd.out] at hu hno hdg hx
  have hdl : Hid (d.length ≤ 21) := by
    have := hN.len
    have h2 : (dtd r).length ≤ r.length + 1 := by unfold dtd; split; omega; simp; omega
    have h3 : (if decide (9223372036854775808 ≤ b) then ([45] : List UInt8) else []).length ≤ 1 := by split <;> simp
    rw [← hd.out, List.length_append]
    show _ ≤ _
    omega
  have hK : Hid (d.length < txt.length) := by rw [hu, List.length_append, List.length_cons]; show _ < _; omega
  have htl : Hid (txt.length ≤ 100) := by
    have h1 := hN.ds.len
    have h2 := hdl.out
    have h3 : (if x < 0 then ([45] : List UInt8) else []).length ≤ 1 := by split <;> simp
    rw [hx]
    unfold exl
    rw [List.length_append, List.length_cons, List.length_append]
    show _ ≤ _
    omega
  have hsz : (B txt).size = txt.length := B_size txt
  obtain ⟨R, hR⟩ : ∃ R, B txt = R := ⟨_, rfl⟩
  have hget : Hid (∀ i (h : i < R.size), txt[i]? = some R[i]) := fun i h => by subst hR; exact ba_get (B txt) i h
  have hR' : Hid (B txt = R) := hR
  rw [hR] at hsz ⊢
  obtain ⟨i0, hi0, hz0, hz1, hz2⟩ := info_parts infoInt
  obtain ⟨K, hKe⟩ : ∃ K, Hid (d.length = K) := ⟨_, rfl⟩
  have hKR : K < R.size := by rw [hsz, ← hKe.out]; exact hK.out
  have hK21 : K ≤ 21 := by rw [← hKe.out]; exact hdl.out
  have hR100 : R.size ≤ 100 := by rw [hsz]; exact htl.out
  have hbyte : Hid (∀ i (h : i < R.size), i < K → d[i]? = some R[i] ∧ R[i].toNat ≠ 101) := fun i h hi => by
    have h1 := hget.out i h
    rw [hu, List.getElem?_append_left (by rw [hKe.out]; exact hi)] at h1
    refine ⟨h1, fun e => ?_⟩
    exact hno _ (List.mem_of_getElem? h1) (UInt8.toNat_inj.1 e)
  have hend : Hid (R[K].toNat = 101) := by
    have h1 := hget.out K hKR
    rw [hu, List.getElem?_append_right (by rw [hKe.out]; exact Nat.le_refl _), hKe.out, Nat.sub_self] at h1
    have := Option.some.inj h1
    show _ = _
    rw [← this]; rfl
  have hdg' : Hid (dvs d = r.map fun c => c.toNat - 48) := hdg
  have hx' : Hid (txt = d ++ exl x (Lib.decDigits x.natAbs)) := hx
  have hgt' : Hid (w.cell? ⟨0, 0, none⟩ = some et) := hgt
  have hgr' : Hid (w.cell? ⟨1, 0, none⟩ = some (ev ra)) := hgr
  clear hR hno hdg hu hN hget hx hgt hgr
  go_enter Tryd.func11, Tryd.ntmps11
  go_wp2_with fail
  go_loopw [5, 6] (fun sl si wx => ∃ i : Nat, i ≤ K ∧ si = .int .i64 (i : Int) ∧ Hid (wx.ownsRow w.heap.size 3 1 sl (dvs (d.take i)).length (il (dvs (d.take i)))) ∧ Hid (sl.ownBlock ≠ none) ∧ Hid (Below w.heap.size w wx)) (fun _ si _ => K - (RowKit.intOf si).toNat)
  case atStart => exact ⟨0, Nat.zero_le _, rfl, emptyC w, (fun h => by cases h), (Below.refl _ w).alloc (Nat.le_refl _) _⟩
  case round =>
    obtain ⟨i, hiK, rfl, O, hne, Bw⟩ := hrel
    have hlt : i < R.size := by omega
    have hlt' : (i : Int) < (R.size : Int) := by omega
    by_cases hik : i < K
    · obtain ⟨g1, g2⟩ := hbyte.out i hlt hik
      have c1' : ((R[i].toNat : Int) != 101) = true := by simp; omega
      have yes : Dg.isD R[i] = true → Hid (dvs (d.take (i + 1)) = dvs (d.take i) ++ [R[i].toNat - 48]) := fun h => dvs_take_yes g1 h
      have no : ¬ Dg.isD R[i] = true → Hid (dvs (d.take (i + 1)) = dvs (d.take i)) := fun h => dvs_take_no g1 h
      clear g1
      by_cases c2 : 48 ≤ R[i].toNat
      · have c2' : (48 : Int) ≤ (R[i].toNat : Int) := by omega
        by_cases c3 : R[i].toNat ≤ 57
        · have c3' : (R[i].toNat : Int) ≤ 57 := by omega
          have hy := yes (decide_eq_true ⟨c2, c3⟩)
          obtain ⟨q, hq⟩ : ∃ q, Hid ((dvs (d.take i)).length = q) := ⟨_, rfl⟩
          have hqi : q ≤ i := by rw [← hq.out]; exact dvs_len d i
          have O' := O.out
          rw [hq.out] at O'
          have hs1 := Bw.out.size
          obtain ⟨z, hz⟩ : ∃ z : Nat, z = R[i].toNat - 48 := ⟨_, rfl⟩
          have hz' : (R[i].toNat : Int) - 48 = (z : Int) := by omega
          have hz9 : z ≤ 9 := by omega
          rw [← hz] at hy
          clear yes no hz
          go_wp2_with (at_builtin; refine wpList_append_own_at _ rfl _ _ 23 rfl w.heap.size 3 i0 (.int .i64 0) 1 8 Tryd.underlying23 hi0 hz0 hz1 hz2 rfl (by decide) _ _ _ rfl (O'.alloc _) ⟨wr.heap.size, 0, none⟩ 1 1 [.int .i64 (z : Int)] rfl rfl (cell_one_new _ _ _) (by simp [Value.oneCell']) (by unfold maxLen; omega) (by omega) (by simp; omega) ?_)
          intro v' w4 hown' hgrow hnil hat
          have O4 : Hid (w4.ownsRow w.heap.size 3 1 v' (dvs (d.take (i + 1))).length (il (dvs (d.take (i + 1))))) := by
            rw [hy.out, il_snoc, List.length_append, hq.out]; exact hown'
          have B4 : Hid (Below w.heap.size w w4) := (Bw.out.alloc hs1 _).grown hgrow (by simp; omega) (fun k hk => (O'.lt k hk).1)
          have n4 : Hid (v'.ownBlock ≠ none) := fun h => by
            rcases hat with e | e
            · exact hne.out (e ▸ h)
            · rw [e] at h; cases h
          clear hown' hgrow hat O' hnil O Bw hne
          go_wp2_with fail
          go_roundw
          case rel => exact ⟨i + 1, by omega, by go_num, O4, n4, B4⟩
          case measure => simp [RowKit.intOf]; omega
        · have c3' : decide ((R[i].toNat : Int) ≤ 57) = false := decide_eq_false (by omega)
          have hy := no (fun h => c3 (of_decide_eq_true h).2)
          clear yes no
          go_wp2_with fail
          go_roundw
          case rel => exact ⟨i + 1, by omega, by go_num, by rw [hy.out]; exact O, hne, Bw⟩
          case measure => simp [RowKit.intOf]; omega
      · have c2' : decide ((48 : Int) ≤ (R[i].toNat : Int)) = false := decide_eq_false (by omega)
        have hy := no (fun h => c2 (of_decide_eq_true h).1)
        clear yes no
        go_wp2_with fail
        go_roundw
        case rel => exact ⟨i + 1, by omega, by go_num, by rw [hy.out]; exact O, hne, Bw⟩
        case measure => simp [RowKit.intOf]; omega
    · have hik' : i = K := by omega
      subst hik'
      have c1' : ((R[i].toNat : Int) != 101) = false := by have := hend.out; rw [this]; rfl
      have hil : ((i : Int) == (R.size : Int)) = false := beq_eq_false_iff_ne.2 (by omega)
      rw [← hsz] at *
      have ht : d.take i = d := by rw [← hKe.out]; exact List.take_length
      rw [ht, hdg'.out] at O
      obtain ⟨zs, hzs⟩ : ∃ zs : List Nat, Hid ((r.map fun c => c.toNat - 48) = zs) := ⟨r.map fun (c : UInt8) => c.toNat - 48, (rfl : _ = _)⟩
      rw [hzs.out] at O
      obtain ⟨q, hq⟩ : ∃ q, Hid (zs.length = q) := ⟨_, rfl⟩
      rw [hq.out] at O
      obtain ⟨g, cap, e5, hgc⟩ : ∃ g cap, u5 = .slice (some ⟨g, 0, none⟩) q cap ∧ q ≤ cap := by
        rcases O.out.2 with ⟨e, _⟩ | ⟨g, cap, cur, e, _, _, h3, _⟩
        · exact absurd (by rw [e]; rfl) hne.out
        · exact ⟨g, cap, e, h3⟩
      subst e5
      have hq19 : q ≤ 19 := by rw [← hq.out, ← hzs.out, List.length_map]; exact hN'.out.len
      clear ht hne hbyte hend
      by_cases h2 : q < 2
      · have h2' : (q : Int) < 2 := by omega
        go_wp2_with fail
        go_ret
        exact ⟨rfl, Bw.out⟩
      · have h2' : decide ((q : Int) < 2) = false := decide_eq_false (by omega)
        obtain ⟨p, hp⟩ : ∃ p, q = p + 1 := ⟨q - 1, by omega⟩
        subst hp
        have hR1 : Hid (Row 3 .i64 wr w.heap.size (.slice (some ⟨g, 0, none⟩) p cap) p (fun j => zs.getD j 0)) := own_less O.out hq.out (by omega)
        have h9 : Hid (∀ j, j < p → zs.getD j 0 ≤ 9) := fun j hj => by
          have : j < r.length := by have := hq.out; rw [← hzs.out, List.length_map] at this; omega
          rw [← hzs.out]
          have hd := hN'.out.dig r[j] (List.getElem_mem this)
          have := (of_decide_eq_true hd).2
          simp [List.getD, *]
        have hpl : Hid (p < r.length) := by have := hq.out; rw [← hzs.out, List.length_map] at this; show _ < _; omega
        have hpc : (p : Int) ≤ (cap : Int) := by omega
        have hsuf : Hid (R.extract i R.size = B (exl x (Lib.decDigits x.natAbs))) := by
          show _ = _
          rw [← hR'.out, B_suf, hx'.out, ← hKe.out, List.drop_left]
        obtain ⟨P2, hP2⟩ : ∃ P2, Hid (B (exl x (Lib.decDigits x.natAbs)) = P2) := ⟨_, rfl⟩
        have hsuf' : R.extract i R.size = P2 := hsuf.out.trans hP2.out
        have hP2s : P2.size ≤ 100 := by
          rw [← hsuf', ByteArray.size_extract]
          omega
        clear O hsuf hq hzs hdg' hd hx' hK htl hdl
        go_wp2_with fail
        go_loopw [57] (fun sc wx => ∃ (c : Nat) (f : Nat → Nat), c ≤ 2 ∧ sc = .int .i64 (c : Int) ∧ Hid (Row 3 .i64 wx w.heap.size (.slice (some ⟨g, 0, none⟩) p cap) p f) ∧ Hid (∀ j, j < p → f j ≤ 9) ∧ Hid (Below w.heap.size w wx)) (fun sc _ => 2 - (RowKit.intOf sc).toNat)
        case atStart => exact ⟨0, _, by decide, rfl, hR1, h9, Bw⟩
        case round =>
          obtain ⟨c, f, hc2, rfl, Rw, hf9, Bx⟩ := hrel
          clear hR1 h9 Bw
          by_cases hc : c < 2
          · have hc' : (c : Int) < 2 := by omega
            have hwr := writtenL_0 sb p f w.heap.size g cap wr Rw hf9 (by omega)
            obtain ⟨a1, ha1⟩ : ∃ a1, Hid ((if sb then ([45] : List UInt8) else []) ++ wrd f p = a1) := ⟨_, (rfl : _ = _)⟩
            rw [ha1.out] at hwr
            obtain ⟨P1, hP1⟩ : ∃ P1, Hid (B a1 = P1) := ⟨_, rfl⟩
            obtain ⟨T, hT⟩ : ∃ T, Hid (B (a1 ++ [101, 48]) = T) := ⟨B (a1 ++ [101, 48]), (rfl : B (a1 ++ [101, 48]) = B (a1 ++ [101, 48]))⟩
            rw [hT.out] at hwr
            have hTs : T.size = P1.size + 2 := by rw [← hT.out, ← hP1.out, B_size, B_size, List.length_append]; rfl
            have hTe : T.extract 0 P1.size = P1 := by rw [← hT.out, ← hP1.out, B_pre, B_size, List.take_left]
            obtain ⟨P3, hP3⟩ : ∃ P3, Hid (B (a1 ++ exl x (Lib.decDigits x.natAbs)) = P3) := ⟨_, rfl⟩
            have hcat : P1 ++ P2 = P3 := by rw [← hP1.out, ← hP2.out, ← hP3.out, B_append]
            have hP1s : P1.size ≤ 400 := by
              rw [← hP1.out, B_size, ← ha1.out, List.length_append]
              have := wrd_len f p
              have h3 : (if sb then ([45] : List UInt8) else []).length ≤ 1 := by split <;> simp
              omega
            have hwr' : Hid (Calls Tryd.prog 10 #[.bool sb, .slice (some ⟨g, 0, none⟩) p cap, .int .i64 0] wr fun e w' => e = .returned (.string T) ∧ Below wr.heap.size wr w') := hwr
            have hpp : Hid (∀ W, Below w.heap.size w W → Calls Tryd.prog 9 #[.string P3] W fun e w' => ∃ h e', e = .returned (.tuple #[.float .f64 h, e']) ∧ (e' = ev ra ∨ (e' = .nilIface ∧ (FloatKind.f64.format.order h b == some .eq) = false)) ∧ Below W.heap.size W w') := fun W hW => by
              have z1 := (hW.cell (p := ⟨0, 0, none⟩) (World.block_lt_of_cell? w _ hgt'.out)).trans hgt'.out
              have z2 := (hW.cell (p := ⟨1, 0, none⟩) (World.block_lt_of_cell? w _ hgr'.out)).trans hgr'.out
              rw [← hP3.out]
              refine (parsePlain_c _ W et (ev ra) z1 z2).mono ?_
              rintro e w' ⟨v, rfl, hv, hB⟩
              rw [← ha1.out, wrd_dtd, ← hsb.out] at hv
              have hl := hN'.out.less (dgl f p) _ x et (ev ra) v (dgl_dig hf9.out) (fun e => by have := dgl_len f p; rw [e] at this; simp at this; omega) (by rw [dgl_len]; exact hpl.out) hN'.out.ds hv
              rcases hl with rfl | ⟨s, rfl, _, ho⟩
              · exact ⟨_, _, rfl, .inl rfl, hB⟩
              · exact ⟨_, _, rfl, .inr ⟨rfl, by simpa using ho⟩, hB⟩
            clear hwr
            obtain ⟨n1, hn1⟩ : ∃ n1, P1.size = n1 := ⟨_, rfl⟩
            rw [hn1] at hTs hTe hP1s
            have w1 : IntKind.i64.wrap (n1 : Int) = (n1 : Int) := by rw [IntKind.wrap_i64]; omega
            have w2 : IntKind.i64.wrap ((n1 : Int) + 2 - 2) = (n1 : Int) := by rw [IntKind.wrap_i64]; omega
            have v1 : (0 : Int) ≤ (n1 : Int) := by omega
            have v2 : (n1 : Int) ≤ (n1 : Int) + 2 := by omega
            have v3 : (0 : Int) ≤ (i : Int) := by omega
            have v4 : (i : Int) ≤ (R.size : Int) := by omega
            have v5 : (n1 : Int) ≤ (T.size : Int) := by omega
            have v6 : i ≤ R.size := by omega
            have v7 : n1 ≤ T.size := by omega
            have v8 : ¬ 9223372036854775807 < n1 + P2.size := by omega
            go_wp2_with fail
            refine hwr'.out.mono ?_
            rintro e w5 ⟨rfl, B5⟩
            have Rw5 : Hid (Row 3 .i64 w5 w.heap.size (.slice (some ⟨g, 0, none⟩) p cap) p f) := Rw.out.under B5
            have Bx5 : Hid (Below w.heap.size w w5) := Bx.out.trans (B5.mono Bx.out.size)
            clear Rw Bx B5 hwr'
            go_wp2_with fail
            go_region_held3 (fun _ => True) (trivial) ((first
              | (go_at_call 9
                 refine (hpp.out _ (Bx5.out.drew)).mono ?_
                 rintro e w6 ⟨h, e', rfl, hcase, B6⟩)))
            have Rw6 : Hid (Row 3 .i64 w6 w.heap.size (.slice (some ⟨g, 0, none⟩) p cap) p f) := Rw5.out.under (w' := w6) (((Below.refl w5.heap.size w5).drew).trans B6)
            have Bx6 : Hid (Below w.heap.size w w6) := Bx5.out.drew.trans (B6.mono Bx5.out.size)
            clear Rw5 Bx5 B6 hpp
            have e1 := ev_nil ra
            have e2 := ev_guard ra
            have hp1 : (1 : Int) ≤ (p : Int) := by omega
            clear hP1 hT hP3 ha1 hTe hTs hn1 w1 w2 v1 v2 v3 v4 v5 v6 v7 v8 hcat
            rcases hcase with rfl | ⟨rfl, ho⟩
            · go_wp2_with fail
              go_loopw [10] (fun sk wx => ∃ k : Nat, k < p ∧ sk = .int .i64 (k : Int) ∧ wx = w6) (fun sk _ => (RowKit.intOf sk).toNat)
              case atStart => exact ⟨p - 1, by omega, by rw [show (((p - 1 : Nat)) : Int) = (p : Int) - 1 by omega], rfl⟩
              case round =>
                obtain ⟨k, hkp, rfl, rfl⟩ := hrel
                have ck := Rw6.out.cell k hkp
                have hkp0 : (k : Int) < (p : Int) := by omega
                by_cases hk0 : 0 < k
                · have hk0' : (k : Int) > 0 := by omega
                  by_cases h9 : f k = 9
                  · rw [h9] at ck
                    obtain ⟨k1, rfl⟩ : ∃ k1, k = k1 + 1 := ⟨k - 1, by omega⟩
                    go_wp2_with fail
                    go_roundw
                    case rel => exact ⟨k1, by omega, by go_num, by first | rfl | trivial⟩
                    case measure => simp [RowKit.intOf]
                  · have fz := Rw6.out.free k
                    have hgl : w.heap.size ≤ g := (World.ownsRow.lt Rw6.out g rfl).1
                    have hy9 := hf9.out k hkp
                    obtain ⟨y, hy⟩ : ∃ y, Hid (f k = y) := ⟨_, rfl⟩
                    rw [hy.out] at ck h9 hy9
                    have h9' : ((y : Int) == 9) = false := beq_eq_false_iff_ne.2 (by omega)
                    have S1 : Hid (Row 3 .i64 (wr.setCell ⟨g, k, none⟩ (.int .i64 ((y : Int) + 1))) w.heap.size (.slice (some ⟨g, 0, none⟩) p cap) p (fun j => if j = k then y + 1 else f j)) := (Rw6.out.put k (y + 1)).1
                    have S2 : Hid (Below w.heap.size w (wr.setCell ⟨g, k, none⟩ (.int .i64 ((y : Int) + 1)))) := Bx6.out.setCell (p := ⟨g, k, none⟩) hgl _
                    have S3 : Hid (∀ j, j < p → (if j = k then y + 1 else f j) ≤ 9) := fun j hj => by
                      by_cases e : j = k
                      · rw [if_pos e]; omega
                      · rw [if_neg e]; exact hf9.out j hj
                    have hkp' : (k : Int) < (p : Int) := by omega
                    clear Rw6 Bx6 hy
                    go_wp2_with fail
                    go_loopw [11] (fun sj wx => ∃ (j : Nat) (f' : Nat → Nat), j ≤ p ∧ sj = .int .i64 (j : Int) ∧ Hid (Row 3 .i64 wx w.heap.size (.slice (some ⟨g, 0, none⟩) p cap) p f') ∧ Hid (∀ j, j < p → f' j ≤ 9) ∧ Hid (Below w.heap.size w wx)) (fun sj _ => p - (RowKit.intOf sj).toNat)
                    case atStart => exact ⟨k + 1, _, by omega, by go_num, S1, S3, S2⟩
                    case round =>
                      obtain ⟨j, f', hjp, rfl, Rj, hj9, Bj⟩ := hrel
                      clear S1 S2 S3
                      by_cases hj : j < p
                      · have hj' : (j : Int) < (p : Int) := by omega
                        have cj := Rj.out.cell j hj
                        have fj := Rj.out.free j
                        have T1 : Hid (Row 3 .i64 (wr.setCell ⟨g, j, none⟩ (.int .i64 0)) w.heap.size (.slice (some ⟨g, 0, none⟩) p cap) p (fun i => if i = j then 0 else f' i)) := (Rj.out.put j 0).1
                        have T2 : Hid (Below w.heap.size w (wr.setCell ⟨g, j, none⟩ (.int .i64 0))) := Bj.out.setCell (p := ⟨g, j, none⟩) hgl _
                        have T3 : Hid (∀ i, i < p → (if i = j then 0 else f' i) ≤ 9) := fun i hi => by
                          by_cases e : i = j
                          · rw [if_pos e]; omega
                          · rw [if_neg e]; exact hj9.out i hi
                        clear Rj hj9 Bj
                        go_wp2_with fail
                        go_roundw
                        case rel => exact ⟨j + 1, _, by omega, by go_num, T1, T3, T2⟩
                        case measure => simp [RowKit.intOf]; omega
                      · have hj' : decide ((j : Int) < (p : Int)) = false := decide_eq_false (by omega)
                        go_wp2_with fail
                        go_roundw
                        case rel => exact ⟨c + 1, f', by omega, by go_num, Rj, hj9, Bj⟩
                        case measure => simp [RowKit.intOf]; omega
                · have hk0' : decide ((k : Int) > 0) = false := decide_eq_false (by omega)
                  by_cases h9 : f k = 9
                  · rw [h9] at ck
                    go_wp2_with fail
                    go_ret
                    exact ⟨rfl, Bx6.out⟩
                  · have fz := Rw6.out.free k
                    have hgl : w.heap.size ≤ g := (World.ownsRow.lt Rw6.out g rfl).1
                    have hy9 := hf9.out k hkp
                    obtain ⟨y, hy⟩ : ∃ y, Hid (f k = y) := ⟨_, rfl⟩
                    rw [hy.out] at ck h9 hy9
                    have h9' : ((y : Int) == 9) = false := beq_eq_false_iff_ne.2 (by omega)
                    have S1 : Hid (Row 3 .i64 (wr.setCell ⟨g, k, none⟩ (.int .i64 ((y : Int) + 1))) w.heap.size (.slice (some ⟨g, 0, none⟩) p cap) p (fun j => if j = k then y + 1 else f j)) := (Rw6.out.put k (y + 1)).1
                    have S2 : Hid (Below w.heap.size w (wr.setCell ⟨g, k, none⟩ (.int .i64 ((y : Int) + 1)))) := Bx6.out.setCell (p := ⟨g, k, none⟩) hgl _
                    have S3 : Hid (∀ j, j < p → (if j = k then y + 1 else f j) ≤ 9) := fun j hj => by
                      by_cases e : j = k
                      · rw [if_pos e]; omega
                      · rw [if_neg e]; exact hf9.out j hj
                    have hkp' : (k : Int) < (p : Int) := by omega
                    clear Rw6 Bx6 hy
                    go_wp2_with fail
                    go_loopw [11] (fun sj wx => ∃ (j : Nat) (f' : Nat → Nat), j ≤ p ∧ sj = .int .i64 (j : Int) ∧ Hid (Row 3 .i64 wx w.heap.size (.slice (some ⟨g, 0, none⟩) p cap) p f') ∧ Hid (∀ j, j < p → f' j ≤ 9) ∧ Hid (Below w.heap.size w wx)) (fun sj _ => p - (RowKit.intOf sj).toNat)
                    case atStart => exact ⟨k + 1, _, by omega, by go_num, S1, S3, S2⟩
                    case round =>
                      obtain ⟨j, f', hjp, rfl, Rj, hj9, Bj⟩ := hrel
                      clear S1 S2 S3
                      by_cases hj : j < p
                      · have hj' : (j : Int) < (p : Int) := by omega
                        have cj := Rj.out.cell j hj
                        have fj := Rj.out.free j
                        have T1 : Hid (Row 3 .i64 (wr.setCell ⟨g, j, none⟩ (.int .i64 0)) w.heap.size (.slice (some ⟨g, 0, none⟩) p cap) p (fun i => if i = j then 0 else f' i)) := (Rj.out.put j 0).1
                        have T2 : Hid (Below w.heap.size w (wr.setCell ⟨g, j, none⟩ (.int .i64 0))) := Bj.out.setCell (p := ⟨g, j, none⟩) hgl _
                        have T3 : Hid (∀ i, i < p → (if i = j then 0 else f' i) ≤ 9) := fun i hi => by
                          by_cases e : i = j
                          · rw [if_pos e]; omega
                          · rw [if_neg e]; exact hj9.out i hi
                        clear Rj hj9 Bj
                        go_wp2_with fail
                        go_roundw
                        case rel => exact ⟨j + 1, _, by omega, by go_num, T1, T3, T2⟩
                        case measure => simp [RowKit.intOf]; omega
                      · have hj' : decide ((j : Int) < (p : Int)) = false := decide_eq_false (by omega)
                        go_wp2_with fail
                        go_roundw
                        case rel => exact ⟨c + 1, f', by omega, by go_num, Rj, hj9, Bj⟩
                        case measure => simp [RowKit.intOf]; omega
            · go_wp2_with fail
              go_loopw [10] (fun sk wx => ∃ k : Nat, k < p ∧ sk = .int .i64 (k : Int) ∧ wx = w6) (fun sk _ => (RowKit.intOf sk).toNat)
              case atStart => exact ⟨p - 1, by omega, by rw [show (((p - 1 : Nat)) : Int) = (p : Int) - 1 by omega], rfl⟩
              case round =>
                obtain ⟨k, hkp, rfl, rfl⟩ := hrel
                have ck := Rw6.out.cell k hkp
                have hkp0 : (k : Int) < (p : Int) := by omega
                by_cases hk0 : 0 < k
                · have hk0' : (k : Int) > 0 := by omega
                  by_cases h9 : f k = 9
                  · rw [h9] at ck
                    obtain ⟨k1, rfl⟩ : ∃ k1, k = k1 + 1 := ⟨k - 1, by omega⟩
                    go_wp2_with fail
                    go_roundw
                    case rel => exact ⟨k1, by omega, by go_num, by first | rfl | trivial⟩
                    case measure => simp [RowKit.intOf]
                  · have fz := Rw6.out.free k
                    have hgl : w.heap.size ≤ g := (World.ownsRow.lt Rw6.out g rfl).1
                    have hy9 := hf9.out k hkp
                    obtain ⟨y, hy⟩ : ∃ y, Hid (f k = y) := ⟨_, rfl⟩
                    rw [hy.out] at ck h9 hy9
                    have h9' : ((y : Int) == 9) = false := beq_eq_false_iff_ne.2 (by omega)
                    have S1 : Hid (Row 3 .i64 (wr.setCell ⟨g, k, none⟩ (.int .i64 ((y : Int) + 1))) w.heap.size (.slice (some ⟨g, 0, none⟩) p cap) p (fun j => if j = k then y + 1 else f j)) := (Rw6.out.put k (y + 1)).1
                    have S2 : Hid (Below w.heap.size w (wr.setCell ⟨g, k, none⟩ (.int .i64 ((y : Int) + 1)))) := Bx6.out.setCell (p := ⟨g, k, none⟩) hgl _
                    have S3 : Hid (∀ j, j < p → (if j = k then y + 1 else f j) ≤ 9) := fun j hj => by
                      by_cases e : j = k
                      · rw [if_pos e]; omega
                      · rw [if_neg e]; exact hf9.out j hj
                    have hkp' : (k : Int) < (p : Int) := by omega
                    clear Rw6 Bx6 hy
                    go_wp2_with fail
                    go_loopw [11] (fun sj wx => ∃ (j : Nat) (f' : Nat → Nat), j ≤ p ∧ sj = .int .i64 (j : Int) ∧ Hid (Row 3 .i64 wx w.heap.size (.slice (some ⟨g, 0, none⟩) p cap) p f') ∧ Hid (∀ j, j < p → f' j ≤ 9) ∧ Hid (Below w.heap.size w wx)) (fun sj _ => p - (RowKit.intOf sj).toNat)
                    case atStart => exact ⟨k + 1, _, by omega, by go_num, S1, S3, S2⟩
                    case round =>
                      obtain ⟨j, f', hjp, rfl, Rj, hj9, Bj⟩ := hrel
                      clear S1 S2 S3
                      by_cases hj : j < p
                      · have hj' : (j : Int) < (p : Int) := by omega
                        have cj := Rj.out.cell j hj
                        have fj := Rj.out.free j
                        have T1 : Hid (Row 3 .i64 (wr.setCell ⟨g, j, none⟩ (.int .i64 0)) w.heap.size (.slice (some ⟨g, 0, none⟩) p cap) p (fun i => if i = j then 0 else f' i)) := (Rj.out.put j 0).1
                        have T2 : Hid (Below w.heap.size w (wr.setCell ⟨g, j, none⟩ (.int .i64 0))) := Bj.out.setCell (p := ⟨g, j, none⟩) hgl _
                        have T3 : Hid (∀ i, i < p → (if i = j then 0 else f' i) ≤ 9) := fun i hi => by
                          by_cases e : i = j
                          · rw [if_pos e]; omega
                          · rw [if_neg e]; exact hj9.out i hi
                        clear Rj hj9 Bj
                        go_wp2_with fail
                        go_roundw
                        case rel => exact ⟨j + 1, _, by omega, by go_num, T1, T3, T2⟩
                        case measure => simp [RowKit.intOf]; omega
                      · have hj' : decide ((j : Int) < (p : Int)) = false := decide_eq_false (by omega)
                        go_wp2_with fail
                        go_roundw
                        case rel => exact ⟨c + 1, f', by omega, by go_num, Rj, hj9, Bj⟩
                        case measure => simp [RowKit.intOf]; omega
                · have hk0' : decide ((k : Int) > 0) = false := decide_eq_false (by omega)
                  by_cases h9 : f k = 9
                  · rw [h9] at ck
                    go_wp2_with fail
                    go_ret
                    exact ⟨rfl, Bx6.out⟩
                  · have fz := Rw6.out.free k
                    have hgl : w.heap.size ≤ g := (World.ownsRow.lt Rw6.out g rfl).1
                    have hy9 := hf9.out k hkp
                    obtain ⟨y, hy⟩ : ∃ y, Hid (f k = y) := ⟨_, rfl⟩
                    rw [hy.out] at ck h9 hy9
                    have h9' : ((y : Int) == 9) = false := beq_eq_false_iff_ne.2 (by omega)
                    have S1 : Hid (Row 3 .i64 (wr.setCell ⟨g, k, none⟩ (.int .i64 ((y : Int) + 1))) w.heap.size (.slice (some ⟨g, 0, none⟩) p cap) p (fun j => if j = k then y + 1 else f j)) := (Rw6.out.put k (y + 1)).1
                    have S2 : Hid (Below w.heap.size w (wr.setCell ⟨g, k, none⟩ (.int .i64 ((y : Int) + 1)))) := Bx6.out.setCell (p := ⟨g, k, none⟩) hgl _
                    have S3 : Hid (∀ j, j < p → (if j = k then y + 1 else f j) ≤ 9) := fun j hj => by
                      by_cases e : j = k
                      · rw [if_pos e]; omega
                      · rw [if_neg e]; exact hf9.out j hj
                    have hkp' : (k : Int) < (p : Int) := by omega
                    clear Rw6 Bx6 hy
                    go_wp2_with fail
                    go_loopw [11] (fun sj wx => ∃ (j : Nat) (f' : Nat → Nat), j ≤ p ∧ sj = .int .i64 (j : Int) ∧ Hid (Row 3 .i64 wx w.heap.size (.slice (some ⟨g, 0, none⟩) p cap) p f') ∧ Hid (∀ j, j < p → f' j ≤ 9) ∧ Hid (Below w.heap.size w wx)) (fun sj _ => p - (RowKit.intOf sj).toNat)
                    case atStart => exact ⟨k + 1, _, by omega, by go_num, S1, S3, S2⟩
                    case round =>
                      obtain ⟨j, f', hjp, rfl, Rj, hj9, Bj⟩ := hrel
                      clear S1 S2 S3
                      by_cases hj : j < p
                      · have hj' : (j : Int) < (p : Int) := by omega
                        have cj := Rj.out.cell j hj
                        have fj := Rj.out.free j
                        have T1 : Hid (Row 3 .i64 (wr.setCell ⟨g, j, none⟩ (.int .i64 0)) w.heap.size (.slice (some ⟨g, 0, none⟩) p cap) p (fun i => if i = j then 0 else f' i)) := (Rj.out.put j 0).1
                        have T2 : Hid (Below w.heap.size w (wr.setCell ⟨g, j, none⟩ (.int .i64 0))) := Bj.out.setCell (p := ⟨g, j, none⟩) hgl _
                        have T3 : Hid (∀ i, i < p → (if i = j then 0 else f' i) ≤ 9) := fun i hi => by
                          by_cases e : i = j
                          · rw [if_pos e]; omega
                          · rw [if_neg e]; exact hj9.out i hi
                        clear Rj hj9 Bj
                        go_wp2_with fail
                        go_roundw
                        case rel => exact ⟨j + 1, _, by omega, by go_num, T1, T3, T2⟩
                        case measure => simp [RowKit.intOf]; omega
                      · have hj' : decide ((j : Int) < (p : Int)) = false := decide_eq_false (by omega)
                        go_wp2_with fail
                        go_roundw
                        case rel => exact ⟨c + 1, f', by omega, by go_num, Rj, hj9, Bj⟩
                        case measure => simp [RowKit.intOf]; omega
          · have hc' : decide ((c : Int) < 2) = false := decide_eq_false (by omega)
            go_wp2_with fail
            go_ret
            exact ⟨rfl, Bx.out⟩
end Go.Proofs.YtmfnjmgdindlaaaDoor
