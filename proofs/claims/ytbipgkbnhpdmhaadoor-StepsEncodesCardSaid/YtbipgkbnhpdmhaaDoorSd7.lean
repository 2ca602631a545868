/-
  timbreref15: Encode.
-/
import Derived.Test.YtbipgkbnhpdmhaaDoorSd5
import Derived.Test.YtbipgkbnhpdmhaaDoorSd6
import Derived.Test.YtbipgkbnhpdmhaaDoorQkg
import Derived.Test.YtbipgkbnhpdmhaaDoorSp8
namespace Go.Proofs.YtbipgkbnhpdmhaaDoor
open Flo Go.RowKit
/-- what the document's Encode answers -/
def DEn (p : Sp.Pg) (w : World) (e : Ending) (w' : World) : Prop :=
  (Sp.inf p = false ∧ e = .returned (.tuple #[.slice none 0 0, .int .i64 9]) ∧ Below w.heap.size w w') ∨
  (Sp.inf p = true ∧ ∃ v, e = .returned (.tuple #[v, .int .i64 0]) ∧ NewB w w' v (Sp.encP p))
/-- bytes written so far, beside a row of numbers that is gone over -/
structure ESt (w0 wr : World) (so : Value) (ys : List Nat) (q : Nat) (zs : List Nat) : Prop where
  nb : NewB w0 wr so ys
  ne : so.ownBlock ≠ some q
  lt : q < wr.heap.size
  cl : ∀ (i : Nat) (x : Nat), zs[i]? = some x → wr.cell? ⟨q, i, none⟩ = some (.int .i64 (x : Int))
section
variable {w0 wr w1 w2 : World} {so v' : Value} {ys ys' zs : List Nat} {q : Nat}
theorem ESt.app (h : ESt w0 wr so ys q zs) (hb : Below wr.heap.size wr w1) (ho : OwB w2 v' ys') (hg : w1.grownBy w2 so.ownBlock) (hn : ∀ b, v'.ownBlock = some b → so.ownBlock = some b ∨ w1.heap.size ≤ b) : ESt w0 w2 v' ys' q zs := by
  have f1 : Fr (fun k => so.ownBlock = some k) w1 w2 := (Fr.refl _ w1).grown hg fun _ hk => hk
  have h1 := hb.size
  have h2 := hg.size
  have h3 := h.lt
  refine ⟨h.nb.app hb ho hg hn, ?_, by omega, ?_⟩
  · intro e
    rcases hn _ e with h4 | h4
    · exact h.ne h4
    · omega
  · intro i x hx
    exact f1.cell ((hb.cell (p := ⟨q, i, none⟩) h.lt).trans (h.cl i x hx)) h.ne
end
theorem vs_take {zs : List Nat} {k x : Nat} (h : zs[k]? = some x) : Sp.vs (zs.take (k + 1)) = Sp.vs (zs.take k) ++ Pk.vi x := by
  obtain ⟨hk, rfl⟩ := List.getElem?_eq_some_iff.1 h
  rw [List.take_succ_eq_append_getElem hk, Sp.vs_app, Sp.vs_one]
theorem fl_bd {s : Sp.St} (h : Sp.fm s = true) : (Sp.fl s).length ≤ 7 ∧ ∀ x ∈ Sp.fl s, x ≤ 262144 := by
  refine ⟨?_, fun x hx => ?_⟩
  · have := pr_len (Sp.hl s.op.toNat) (Sp.nl s)
    have e : (Sp.hl s.op.toNat).length = 6 := rfl
    simp only [Sp.fl, List.length_cons]
    omega
  · rcases List.mem_cons.1 hx with rfl | hx
    · have := (Sp.fm_fields h).1; omega
    · obtain ⟨z, hz, rfl⟩ := pr_mem _ _ _ hx
      obtain ⟨i, hi, e⟩ := List.mem_iff_getElem.1 hz
      have := nl_bd h i
      rw [List.getD_eq_getElem?_getD, List.getElem?_eq_getElem hi, Option.getD_some, e] at this
      omega
theorem dfields_s {s : Sp.St} (h : Sp.fm s = true) (w : World) : Calls Tryd.prog 41 #[sv s] w fun e w' => FiE (Sp.fl s) w e w' := by
  have hf := Sp.fm_fields h
  obtain ⟨op, dst, src, jump, count, n, k⟩ := s
  simp only at hf
  obtain ⟨o, rfl⟩ := Int.eq_ofNat_of_zero_le (show 0 ≤ op by omega)
  obtain ⟨D, rfl⟩ := Int.eq_ofNat_of_zero_le (show 0 ≤ dst by omega)
  obtain ⟨S, rfl⟩ := Int.eq_ofNat_of_zero_le (show 0 ≤ src by omega)
  obtain ⟨J, rfl⟩ := Int.eq_ofNat_of_zero_le (show 0 ≤ jump by omega)
  obtain ⟨C, rfl⟩ := Int.eq_ofNat_of_zero_le (show 0 ≤ count by omega)
  obtain ⟨N, rfl⟩ := Int.eq_ofNat_of_zero_le (show 0 ≤ n by omega)
  obtain ⟨K, rfl⟩ := Int.eq_ofNat_of_zero_le (show 0 ≤ k by omega)
  exact dfields_c o D S J C N K (by omega) w
/-- the row of numbers that fields gives, beside the bytes -/
theorem fie_st {w0 wr w5 : World} {so v : Value} {ys zs : List Nat} (hN : NewB w0 wr so ys) (h : w5.ownsRow wr.heap.size 3 1 v zs.length (il zs)) (hb : Below wr.heap.size wr w5) (hz : zs ≠ []) : ∃ q cap, v = .slice (some ⟨q, 0, none⟩) zs.length cap ∧ ESt w0 w5 so ys q zs := by
  have hlt := World.ownsRow.lt h
  have hcc := h
  rcases h.2 with ⟨_, h1⟩ | ⟨q, cap, cur, rfl, h2, h3, h4, h5⟩
  · exact absurd (List.eq_nil_of_length_eq_zero h1) hz
  · have hq := hlt q rfl
    refine ⟨q, cap, rfl, hN.under hb, ?_, hq.2, ?_⟩
    · intro e
      have := (World.ownsRow.lt hN.own q e).2
      omega
    · intro i x hx
      have hi := (List.getElem?_eq_some_iff.1 hx).1
      have h6 := il_get zs i hi
      rw [List.getD_eq_getElem?_getD, hx, Option.getD_some] at h6
      rw [hcc.cellAt i (by omega), h6]
def H5 (p : Sp.Pg) : List Nat := (Sp.hd p).map Int.toNat ++ [p.steps.length]
theorem h5_len (p : Sp.Pg) : (H5 p).length = 5 := rfl
theorem h5_bd {p : Sp.Pg} (h : Sp.inf p = true) : ∀ x ∈ H5 p, x ≤ 262144 := by
  obtain ⟨h1, h2, _⟩ := Sp.inf_parts h
  intro x hx
  unfold H5 at hx
  rcases List.mem_append.1 hx with h3 | h3
  · obtain ⟨y, hy, rfl⟩ := List.mem_map.1 h3
    have := (h1 y hy).2; omega
  · simp at h3; omega
theorem h5_cells {p : Sp.Pg} {n : Nat} (h : Sp.inf p = true) (hn : n = p.steps.length) (w : World) : ∀ (i : Nat) (x : Nat), (H5 p)[i]? = some x → (w.alloc (.cells #[.int .i64 p.len, .int .i64 p.cells, .int .i64 p.inn, .int .i64 p.out, .int .i64 (n : Int)] 3)).cell? ⟨w.heap.size, i, none⟩ = some (.int .i64 (x : Int)) := by
  obtain ⟨h1, h2, _⟩ := Sp.inf_parts h
  have g1 := h1 p.len (by simp [Sp.hd])
  have g2 := h1 p.cells (by simp [Sp.hd])
  have g3 := h1 p.inn (by simp [Sp.hd])
  have g4 := h1 p.out (by simp [Sp.hd])
  have k1 : ((p.len.toNat : Nat) : Int) = p.len := by omega
  have k2 : ((p.cells.toNat : Nat) : Int) = p.cells := by omega
  have k3 : ((p.inn.toNat : Nat) : Int) = p.inn := by omega
  have k4 : ((p.out.toNat : Nat) : Int) = p.out := by omega
  intro i x hx
  match i, hx with
  | 0, hx => simp [H5, Sp.hd] at hx; subst hx; rw [k1]; simp
  | 1, hx => simp [H5, Sp.hd] at hx; subst hx; rw [k2]; simp
  | 2, hx => simp [H5, Sp.hd] at hx; subst hx; rw [k3]; simp
  | 3, hx => simp [H5, Sp.hd] at hx; subst hx; rw [k4]; simp
  | 4, hx => simp [H5, Sp.hd] at hx; subst hx; rw [← hn]; simp
  | (i + 5), hx => simp [H5, Sp.hd] at hx
set_option maxHeartbeats 8000000 in
set_option maxRecDepth 100000 in
theorem dencode_c (p : Sp.Pg) (ao : Option Addr) (n c : Nat) (w : World) (ha : Ss w ao p.steps) (hn : n = p.steps.length) :
    Calls Tryd.prog 20 #[pv p (.slice ao n c)] w fun e w' => DEn p w e w' := by
  obtain ⟨wa, ewa⟩ : ∃ wa, Hid (w.alloc (.cells #[.int .i64 p.len, .int .i64 p.cells, .int .i64 p.inn, .int .i64 p.out, .slice ao n c] 38) = wa) := ⟨_, (rfl : _ = _)⟩
  have Ba : Hid (Below w.heap.size w wa) := by rw [← ewa.out]; exact (Below.refl _ _).alloc (Nat.le_refl _) _
  have X1 : Hid (Bpg wa w.heap.size p (.slice ao n c)) := by rw [← ewa.out]; exact Bpg.new w p (.slice ao n c)
  have haH : Hid (Ss wa ao p.steps) := ha.below Ba.out
  have hnH : Hid (n = p.steps.length) := hn
  have hif : Hid (Calls Tryd.prog 39 #[pv p (.slice ao n c)] wa fun e w' => e = .returned (.bool (Sp.inf p)) ∧ Below wa.heap.size wa w') := dinForm_c p ao n c wa haH.out hn
  clear ha hn
  obtain ⟨b, hb⟩ : ∃ b, Hid (Sp.inf p = b) := ⟨_, (rfl : _ = _)⟩
  rw [hb.out] at hif
  unfold pv at *
  go_enter Tryd.func20, Tryd.ntmps20
  go_upto_region 1 with fail
  rw [ewa.out]
  obtain ⟨x0, x1, x2, x3, x4⟩ := X1.out
  go_wp2_with fail
  refine hif.out.mono ?_
  rintro e w1 ⟨rfl, B1⟩
  have B1H : Hid (Below wa.heap.size wa w1) := B1
  have Bw1 : Hid (Below w.heap.size w w1) := Ba.out.trans (B1.mono Ba.out.size)
  have X2 := X1.out.below B1
  clear x0 x1 x2 x3 x4 X1 B1 hif
  obtain ⟨x0, x1, x2, x3, x4⟩ := X2
  cases b with
  | false =>
    go_wp2_with fail
    go_ret2
    exact .inl ⟨hb.out, rfl, Bw1.out⟩
  | true =>
    obtain ⟨g, hg⟩ : ∃ g, Hid (w1.heap.size = g) := ⟨_, (rfl : _ = _)⟩
    have z0 := fun X => cell_alloc x0 X
    have z1 := fun X => cell_alloc x1 X
    have z2 := fun X => cell_alloc x2 X
    have z3 := fun X => cell_alloc x3 X
    have z4 := fun X => cell_alloc x4 X
    clear x0 x1 x2 x3 x4
    obtain ⟨wb, ewb⟩ : ∃ wb, Hid (w1.alloc (.cells #[] 5) = wb) := ⟨_, (rfl : _ = _)⟩
    have sb : Hid (wb.heap.size = g + 1) := by show _ = _; rw [← ewb.out, ← hg.out]; simp
    have E0 : Hid (ESt w1 (wb.alloc (.cells #[.int .i64 p.len, .int .i64 p.cells, .int .i64 p.inn, .int .i64 p.out, .int .i64 (n : Int)] 3)) (.slice (some ⟨g, 0, none⟩) 0 0) (Sp.vs ((H5 p).take 0)) (g + 1) (H5 p)) := by
      have h1 := sb.out
      refine ⟨?_, ?_, by simp; omega, by rw [← h1]; exact h5_cells hb.out hnH.out wb⟩
      · have h2 := newB_made w1
        rw [ewb.out, hg.out] at h2
        exact h2.under ((Below.refl _ _).alloc (Nat.le_refl _) _)
      · intro e
        have e2 : some g = some (g + 1) := e
        injection e2; omega
    go_wp2_with fail
    rw [ewb.out, hg.out]
    clear z0 z1 z2 z3 z4
    go_loopw [30, 5] (fun i so wr => ∃ k : Nat, k ≤ 5 ∧ i = .int .i64 k ∧ Hid (ESt w1 wr so (Sp.vs ((H5 p).take k)) (g + 1) (H5 p))) (fun i _ _ => 5 - (intOf i).toNat)
    case atStart => exact ⟨0, Nat.zero_le _, rfl, E0⟩
    case round =>
      obtain ⟨k, hk, rfl, E4⟩ := hrel
      by_cases hlt : k < 5
      · have hlt' : (k : Int) < 5 := by omega
        obtain ⟨x, hx⟩ : ∃ x, (H5 p)[k]? = some x := ⟨_, List.getElem?_eq_getElem (by rw [h5_len]; exact hlt)⟩
        have hc := E4.out.cl k x hx
        have hxb := h5_bd hb.out x (List.mem_of_getElem? hx)
        have hwX : IntKind.u64.wrap (x : Int) = (x : Int) := wrapId _ (by omega)
        have hnx : Hid (Sp.vs ((H5 p).take (k + 1)) = Sp.vs ((H5 p).take k) ++ Pk.vi x) := vs_take hx
        have hu : Hid (Calls Tryd.prog 40 #[.int .u64 x] wr fun e w' => ∃ v', e = .returned v' ∧ NewB wr w' v' (Pk.vi x)) := puint_c x wr (by omega)
        have hll : Hid ((Sp.vs ((H5 p).take k)).length + (Pk.vi x).length ≤ 140737488355328) := by
          have h1 := vs_len ((H5 p).take k) fun y hy => by have := h5_bd hb.out y (List.mem_of_mem_take hy); omega
          have h2 : ((H5 p).take k).length ≤ 5 := by rw [List.length_take, h5_len]; omega
          have h3 := Pk.vi_len (x := x) (by omega)
          show _ ≤ _; omega
        clear hx
        go_wp2_with fail
        refine hu.out.mono ?_
        rintro e w5 ⟨v5, rfl, N5⟩
        have N5H : Hid (NewB wr w5 v5 (Pk.vi x)) := N5
        have O5 : Hid (OwB w5 u5 (Sp.vs ((H5 p).take k))) := (E4.out.nb.under N5.below).own
        clear N5 hc
        go_wp2_with (first | (at_builtin; refine appY _ rfl _ _ rfl (Sp.vs ((H5 p).take k)) (Pk.vi x) u5 v5 rfl rfl O5.out N5H.out.own.src hll.out ?_) | fail)
        intro v6 w6 hO6 hg6 hn6
        rw [← hnx.out] at hO6
        have E6 : Hid (ESt w1 w6 v6 (Sp.vs ((H5 p).take (k + 1))) (g + 1) (H5 p)) := E4.out.app N5H.out.below hO6 hg6 hn6
        clear hO6 hg6 hn6
        go_wp2_with fail
        go_roundw
        case rel => exact ⟨k + 1, by omega, by go_num, E6⟩
        case measure => simp [intOf]; omega
      · have hlt' : decide ((k : Int) < 5) = false := decide_eq_false (by omega)
        have hk5 : Hid (k = 5) := by show k = 5; omega
        have N7 : Hid (NewB w1 wr u5 (Sp.vs (H5 p) ++ (p.steps.take 0).flatMap Sp.enc)) := by
          have h1 := E4.out.nb
          rw [hk5.out, List.take_of_length_le (by rw [h5_len]; exact Nat.le_refl _)] at h1
          show NewB _ _ _ _
          simpa using h1
        have X6 := (show Bpg wa w.heap.size p (.slice ao n c) by rw [← ewa.out]; exact Bpg.new w p (.slice ao n c)).below (B1H.out.trans (N7.out.below.mono B1H.out.size))
        clear hk E4 hlt
        obtain ⟨x0, x1, x2, x3, x4⟩ := X6
        go_wp2_with fail
        rename World => wq
        go_loopw [43, 5] (fun i so wr => ∃ m : Nat, m ≤ n ∧ i = .int .i64 m ∧ Hid (NewB w1 wr so (Sp.vs (H5 p) ++ (p.steps.take m).flatMap Sp.enc))) (fun i _ _ => n - (intOf i).toNat)
        case atStart => exact ⟨0, Nat.zero_le _, rfl, N7⟩
        case round =>
          obtain ⟨m, hm, rfl, N9⟩ := hrel
          have hfl : Hid ((Sp.vs (H5 p) ++ (p.steps.take m).flatMap Sp.enc).length ≤ 140737488330000) := by
            have h1 := vs_len (H5 p) fun y hy => by have := h5_bd hb.out y hy; omega
            rw [h5_len] at h1
            have h3 := encs_len (p.steps.take m) fun s hs => (Sp.inf_parts hb.out).2.2 s (List.mem_of_mem_take hs)
            have h4 : (p.steps.take m).length ≤ n := by rw [List.length_take]; omega
            have h5 : n ≤ 65536 := by rw [hnH.out]; exact (Sp.inf_parts hb.out).2.1
            show _ ≤ _
            rw [List.length_append]
            omega
          by_cases hlm : m < n
          · have hlm' : (m : Int) < (n : Int) := by omega
            obtain ⟨s, hs⟩ : ∃ s, p.steps[m]? = some s := ⟨_, List.getElem?_eq_getElem (by rw [← hnH.out]; exact hlm)⟩
            have hmH : Hid (m + 1 ≤ n) := hlm
            have hfs : Hid (Sp.fm s = true) := (Sp.inf_parts hb.out).2.2 s (List.mem_of_getElem? hs)
            have hts : Hid ((p.steps.take (m + 1)).flatMap Sp.enc = (p.steps.take m).flatMap Sp.enc ++ Sp.enc s) := take_enc hs
            obtain ⟨q, o, rfl, hat⟩ := haH.out m s hs
            obtain ⟨y0, y1, y2, y3, y4, y5, y6⟩ := hat.below (B1H.out.trans (N9.out.below.mono B1H.out.size))
            obtain ⟨wd, ewd⟩ : ∃ wb, Hid (wr.alloc (.cells #[.int .i64 s.op, .int .i64 s.dst, .int .i64 s.src, .int .i64 s.jump, .int .i64 s.count, .int .i64 s.n, .int .i64 s.k] 30) = wb) := ⟨_, (rfl : _ = _)⟩
            have Nd : Hid (NewB w1 wd u5 (Sp.vs (H5 p) ++ (p.steps.take m).flatMap Sp.enc)) := by
              rw [← ewd.out]; exact N9.out.under ((Below.refl _ _).alloc (Nat.le_refl _) _)
            have Xb : Hid (Bst wd wr.heap.size s.op s.dst s.src s.jump s.count s.n s.k) := by show Bst _ _ _ _ _ _ _ _ _; rw [← ewd.out]; exact Bst.new wr _ _ _ _ _ _ _
            have hfi : Hid (Calls Tryd.prog 41 #[sv s] wd fun e w' => FiE (Sp.fl s) wd e w') := dfields_s hfs.out wd
            unfold sv sva at hfi
            clear hs hat N9
            go_upto_region 13 with fail
            rw [ewd.out]
            clear y0 y1 y2 y3 y4 y5 y6
            obtain ⟨y0, y1, y2, y3, y4, y5, y6⟩ := Xb.out
            go_wp2_with fail
            refine hfi.out.mono ?_
            rintro e w5 ⟨v, rfl, O5, B5⟩
            obtain ⟨q5, c5, rfl, E5⟩ := fie_st Nd.out O5 B5 (by simp [Sp.fl])
            have E5H : Hid (ESt w1 w5 u5 (Sp.vs (H5 p) ++ (p.steps.take m).flatMap Sp.enc ++ Sp.vs ((Sp.fl s).take 0)) q5 (Sp.fl s)) := by
              show ESt _ _ _ _ _ _
              simpa [Sp.vs] using E5
            obtain ⟨L, hL⟩ : ∃ L, Hid ((Sp.fl s).length = L) := ⟨_, (rfl : _ = _)⟩
            rw [hL.out]
            clear y0 y1 y2 y3 y4 y5 y6 O5 B5 E5 hfi Nd Xb
            have hL7 := (fl_bd hfs.out).1
            rw [hL.out] at hL7
            clear hlm hlm'
            go_wp2_with fail
            rename World => wq2
            go_loopw [50, 5] (fun i so wr => ∃ k : Nat, k ≤ L ∧ i = .int .i64 k ∧ Hid (ESt w1 wr so (Sp.vs (H5 p) ++ (p.steps.take m).flatMap Sp.enc ++ Sp.vs ((Sp.fl s).take k)) q5 (Sp.fl s))) (fun i _ _ => L - (intOf i).toNat)
            case atStart => exact ⟨0, Nat.zero_le _, rfl, E5H⟩
            case round =>
              obtain ⟨k, hk, rfl, E4⟩ := hrel
              by_cases hlt : k < L
              · have hlt' : (k : Int) < (L : Int) := by omega
                obtain ⟨x, hx⟩ : ∃ x, (Sp.fl s)[k]? = some x := ⟨_, List.getElem?_eq_getElem (by rw [hL.out]; exact hlt)⟩
                have hc := E4.out.cl k x hx
                have hxb := (fl_bd hfs.out).2 x (List.mem_of_getElem? hx)
                have hwX : IntKind.u64.wrap (x : Int) = (x : Int) := wrapId _ (by omega)
                have hnx : Hid (Sp.vs ((Sp.fl s).take (k + 1)) = Sp.vs ((Sp.fl s).take k) ++ Pk.vi x) := vs_take hx
                have hu : Hid (Calls Tryd.prog 40 #[.int .u64 x] wr fun e w' => ∃ v', e = .returned v' ∧ NewB wr w' v' (Pk.vi x)) := puint_c x wr (by omega)
                obtain ⟨ys, hys⟩ : ∃ ys, Hid (Sp.vs (H5 p) ++ (p.steps.take m).flatMap Sp.enc ++ Sp.vs ((Sp.fl s).take k) = ys) := ⟨_, (rfl : _ = _)⟩
                have hll : Hid (ys.length + (Pk.vi x).length ≤ 140737488355328) := by
                  have h0 := hfl.out
                  have h1 := vs_len ((Sp.fl s).take k) fun y hy => by have := (fl_bd hfs.out).2 y (List.mem_of_mem_take hy); omega
                  have h2 : ((Sp.fl s).take k).length ≤ 7 := by rw [List.length_take]; omega
                  have h3 := Pk.vi_len (x := x) (by omega)
                  show _ ≤ _
                  rw [← hys.out, List.length_append]
                  omega
                rw [hys.out] at E4
                clear hx
                go_wp2_with fail
                refine hu.out.mono ?_
                rintro e w7 ⟨v7, rfl, N7⟩
                have N7H : Hid (NewB wr w7 v7 (Pk.vi x)) := N7
                have O7 : Hid (OwB w7 u5 ys) := (E4.out.nb.under N7.below).own
                clear N7 hc
                go_wp2_with (first | (at_builtin; refine appY _ rfl _ _ rfl ys (Pk.vi x) u5 v7 rfl rfl O7.out N7H.out.own.src hll.out ?_) | fail)
                intro v6 w6 hO6 hg6 hn6
                rw [← hys.out, List.append_assoc, ← hnx.out] at hO6
                have E6 : Hid (ESt w1 w6 v6 (Sp.vs (H5 p) ++ (p.steps.take m).flatMap Sp.enc ++ Sp.vs ((Sp.fl s).take (k + 1))) q5 (Sp.fl s)) := E4.out.app N7H.out.below hO6 hg6 hn6
                clear hO6 hg6 hn6
                go_wp2_with fail
                go_roundw
                case rel => exact ⟨k + 1, by omega, by go_num, E6⟩
                case measure => simp [intOf]; omega
              · have hlt' : decide ((k : Int) < (L : Int)) = false := decide_eq_false (by omega)
                have N8 : Hid (NewB w1 wr u5 (Sp.vs (H5 p) ++ (p.steps.take (m + 1)).flatMap Sp.enc)) := by
                  have h1 := E4.out.nb
                  have e1 : (Sp.fl s).take k = Sp.fl s := List.take_of_length_le (by rw [hL.out]; omega)
                  rw [e1, List.append_assoc] at h1
                  show NewB _ _ _ _
                  rw [hts.out]
                  exact h1
                have hmn : m + 1 ≤ n := hmH.out
                have hnb : n ≤ 65536 := by rw [hnH.out]; exact (Sp.inf_parts hb.out).2.1
                clear E4
                go_wp2_with fail
                go_roundw
                case rel => exact ⟨m + 1, by omega, by go_num, N8⟩
                case measure => simp [intOf]; omega
          · have hlm' : decide ((m : Int) < (n : Int)) = false := decide_eq_false (by omega)
            have hmn : m = p.steps.length := by rw [← hnH.out]; omega
            have hall : Hid (Sp.vs (H5 p) ++ (p.steps.take m).flatMap Sp.enc = Sp.encP p) := by
              show _ = _
              rw [hmn, List.take_length]; rfl
            rw [hall.out] at N9
            clear hmn
            go_wp2_with fail
            go_ret2
            exact .inr ⟨hb.out, _, rfl, N9.out.own, fun b hb' => Nat.le_trans Bw1.out.size (N9.out.new b hb'), Bw1.out.trans (N9.out.below.mono Bw1.out.size)⟩
end Go.Proofs.YtbipgkbnhpdmhaaDoor
