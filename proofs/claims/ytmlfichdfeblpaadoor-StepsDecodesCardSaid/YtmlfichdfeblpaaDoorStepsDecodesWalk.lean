/-
  The statement StepsDecodes: the walk.
-/
import Derived.Test.YtmlfichdfeblpaaDoorSv1
import Derived.Test.YtmlfichdfeblpaaDoorSd4
import Derived.Test.YtmlfichdfeblpaaDoorSda
import Derived.Test.YtmlfichdfeblpaaDoorSl2
import Derived.Test.YtmlfichdfeblpaaDoorQkg
import Derived.Test.YtmlfichdfeblpaaDoorQke
namespace Go.Proofs.YtmlfichdfeblpaaDoor
open Flo Go.RowKit
theorem num_fevD (al : List Addr) (b : Bool) (w : World) (he : Errs w al) : Calls Tryd.prog 7 #[fev al b] w fun e w' => e = .returned (.int .i64 (fnn b)) ∧ Below w.heap.size w w' := by
  cases b
  · exact num_err al 8 (by decide) w he
  · refine (num_nil w).mono ?_
    rintro e w' ⟨rfl, rfl⟩
    exact ⟨rfl, Below.refl _ _⟩
theorem bc_setD (ys : List Nat) (i y : Nat) : bc (ys.set i y) = (bc ys).set i (.int .u8 (y : Int)) := by unfold bc; rw [List.map_set]
theorem ownB_setD {w : World} {g cap n i y : Nat} {ys : List Nat} (hn : n = ys.length) (h : OwB w (.slice (some ⟨g, 0, none⟩) n cap) ys) : OwB (w.setCell ⟨g, i, none⟩ (.int .u8 (y : Int))) (.slice (some ⟨g, 0, none⟩) n cap) (ys.set i y) ∧ w.frozen? ⟨g, i, none⟩ = false := by
  subst hn
  have h1 := (World.ownsRow.stored h i (.int .u8 (y : Int))).1
  refine ⟨?_, World.ownsRow.frozenAt h i⟩
  unfold OwB
  rw [List.length_set, bc_setD]
  exact h1
theorem xor33 (x : Nat) (h : x < 256) : ∃ y : Nat, bits .xor .u8 (x : Int) 33 = (y : Int) ∧ y < 256 := by
  have key : ∀ x : Fin 256, ∃ y : Fin 256, bits .xor .u8 ((x.val : Nat) : Int) 33 = ((y.val : Nat) : Int) := by decide +kernel
  obtain ⟨y, hy⟩ := key ⟨x, h⟩
  exact ⟨y.val, hy, y.isLt⟩
/-- the program that bytes are read as, the empty one where they aren't one's -/
def rpg (bs : List Nat) : Sp.Pg := (Sp.rw_ bs).getD ⟨0, 0, 0, 0, []⟩
def rok (bs : List Nat) : Bool := (Sp.rw_ bs).isSome
theorem dc_u {al : List Addr} {bs : List Nat} {w w' : World} {e : Ending} (h : DcE al bs w e w') : ∃ a m k, e = .returned (.tuple #[.agg #[.int .i64 (rpg bs).len, .int .i64 (rpg bs).cells, .int .i64 (rpg bs).inn, .int .i64 (rpg bs).out, .slice a m k], fev al (rok bs)]) ∧ Hid (m = (rpg bs).steps.length) ∧ OwS w' w.heap.size (.slice a m k) (rpg bs).steps ∧ Below w.heap.size w w' := by
  obtain ⟨hb, ⟨hr, rfl⟩ | ⟨p, v, hr, rfl, ho⟩⟩ := h
  · unfold rpg rok; rw [hr]
    exact ⟨none, 0, 0, rfl, rfl, World.ownsRow_nil _ _ _ _, hb⟩
  · unfold rpg rok; rw [hr]
    obtain ⟨ao, cap, rfl⟩ := owns_slice ho
    exact ⟨ao, _, cap, rfl, rfl, ho, hb⟩
theorem dd_u {bs : List Nat} {w w' : World} {e : Ending} (h : DdE bs w e w') : ∃ a m k, e = .returned (.tuple #[.agg #[.int .i64 (rpg bs).len, .int .i64 (rpg bs).cells, .int .i64 (rpg bs).inn, .int .i64 (rpg bs).out, .slice a m k], .int .i64 (fnn (rok bs))]) ∧ Hid (m = (rpg bs).steps.length) ∧ OwS w' w.heap.size (.slice a m k) (rpg bs).steps ∧ Below w.heap.size w w' := by
  obtain ⟨hb, ⟨hr, rfl⟩ | ⟨p, v, hr, rfl, ho⟩⟩ := h
  · unfold rpg rok; rw [hr]
    exact ⟨none, 0, 0, rfl, rfl, World.ownsRow_nil _ _ _ _, hb⟩
  · unfold rpg rok; rw [hr]
    obtain ⟨ao, cap, rfl⟩ := owns_slice ho
    exact ⟨ao, _, cap, rfl, rfl, ho, hb⟩
theorem rpg_len {bs : List Nat} (hb : ∀ b ∈ bs, b < 256) : (rpg bs).steps.length ≤ 65536 := by
  unfold rpg
  cases h : Sp.rw_ bs with
  | none => simp
  | some p => exact (Sp.inf_parts (Sp.rw_inv hb h).2).2.1
theorem OwS.bel {w w' : World} {B : Nat} {v : Value} {ss : List Sp.St} (h : OwS w B v ss) (hb : Below w.heap.size w w') : OwS w' B v ss := h.fr (Fr.bel hb) fun _ _ h => h
theorem OwS.sl {w : World} {B : Nat} {a : Option Addr} {m k : Nat} {ss : List Sp.St} (h : OwS w B (.slice a m k) ss) : Ss w a ss := by
  obtain ⟨ao, cap, h1, h2⟩ := h.ss
  injection h1 with e1 _ _
  rw [e1]; exact h2
theorem own_emptyD (w : World) : OwB (w.alloc (.cells #[] 5)) (.slice (some ⟨w.heap.size, 0, none⟩) 0 0) [] := World.ownsRow_made w #[] 0 (Nat.zero_le _) (by decide) rfl
theorem src_takeD {w : World} {q n cap : Nat} {ys : List Nat} (h : OwB w (.slice (some ⟨q, 0, none⟩) n cap) ys) (hn : n = ys.length) (k c : Nat) (hk : k ≤ ys.length) : SrcB w (.slice (some ⟨q, 0, none⟩) k c) (ys.take k) := by
  subst hn
  have hl : (ys.take k).length = k := by rw [List.length_take]; omega
  refine .inr ⟨⟨q, 0, none⟩, c, by rw [hl], fun j u hj => ?_⟩
  have hh : w.ownsRow 0 5 1 (.slice (some ⟨q, 0, none⟩) ys.length cap) ys.length (bc ys) := h
  have hj2 : j < k := by
    have := (List.getElem?_eq_some_iff.1 hj).1
    rw [bc_len, hl] at this; exact this
  have h1 := hh.cellAt j (by omega)
  have e : (bc (ys.take k))[j]? = (bc ys)[j]? := by
    unfold bc
    rw [List.getElem?_map, List.getElem?_map, List.getElem?_take, if_pos hj2]
  rw [e] at hj
  have h2 : w.cell? ⟨q, j, none⟩ = some u := h1.trans hj
  rw [add_s, Nat.zero_add]
  exact h2
theorem OwB.belD {w w' : World} {v : Value} {ys : List Nat} (h : OwB w v ys) (hb : Below w.heap.size w w') : OwB w' v ys := owns_block h fun b hb' => hb.block b (World.ownsRow.lt h b hb').2
theorem mkS_snoc (l : List Nat) : mkS l ++ (⟨#[119]⟩ : ByteArray) = mkS (l ++ [119]) := by
  have h : (mkS l ++ (⟨#[119]⟩ : ByteArray)).data.toList = (mkS (l ++ [119])).data.toList := by simp [mkS]
  exact ByteArray.ext (Array.toList_inj.1 h)
def s99 : Sp.St := ⟨99, 0, 0, 0, 0, 0, 0⟩
def s98 : Sp.St := ⟨98, 0, 0, 0, 0, 0, 0⟩
theorem scs_set : ∀ (ss : List Sp.St) (i : Nat) (s : Sp.St), i < ss.length → scs (ss.set i s) = ((((((((scs ss).set (i * 7 + 0) (.int .i64 s.op)).set (i * 7 + 1) (.int .i64 s.dst)).set (i * 7 + 2) (.int .i64 s.src)).set (i * 7 + 3) (.int .i64 s.jump)).set (i * 7 + 4) (.int .i64 s.count)).set (i * 7 + 5) (.int .i64 s.n)).set (i * 7 + 6) (.int .i64 s.k))
  | [], i, s, h => by simp at h
  | x :: xs, 0, s, _ => by simp [scs, sc1]
  | x :: xs, i + 1, s, h => by
    have ih := scs_set xs i s (by simpa using h)
    have e : ∀ (l : List Value) (k : Nat) (u : Value), (sc1 x ++ l).set ((i + 1) * 7 + k) u = sc1 x ++ l.set (i * 7 + k) u := fun l k u => by
      rw [show (i + 1) * 7 + k = (i * 7 + k) + 7 by omega]; rfl
    have e2 : scs (x :: xs) = sc1 x ++ scs xs := by simp [scs]
    have e3 : scs ((x :: xs).set (i + 1) s) = sc1 x ++ scs (xs.set i s) := by simp [scs]
    rw [e3, ih, e2, e, e, e, e, e, e, e]
theorem OwS.put {w : World} {B q n c : Nat} {ss : List Sp.St} (h : OwS w B (.slice (some ⟨q, 0, none⟩) n c) ss) (hn : n = ss.length) {i : Nat} (hi : i < n) (s : Sp.St) :
    OwS (((((((w.setCell ⟨q, i * 7 + 0, none⟩ (.int .i64 s.op)).setCell ⟨q, i * 7 + 1, none⟩ (.int .i64 s.dst)).setCell ⟨q, i * 7 + 2, none⟩ (.int .i64 s.src)).setCell ⟨q, i * 7 + 3, none⟩ (.int .i64 s.jump)).setCell ⟨q, i * 7 + 4, none⟩ (.int .i64 s.count)).setCell ⟨q, i * 7 + 5, none⟩ (.int .i64 s.n)).setCell ⟨q, i * 7 + 6, none⟩ (.int .i64 s.k)) B (.slice (some ⟨q, 0, none⟩) n c) (ss.set i s) := by
  subst hn
  have h0 : w.ownsRow B 36 7 (.slice (some ⟨q, 0, none⟩) ss.length c) ss.length (scs ss) := h
  have h1 := (World.ownsRow.stored h0 (i * 7 + 0) (.int .i64 s.op)).1
  have h2 := (World.ownsRow.stored h1 (i * 7 + 1) (.int .i64 s.dst)).1
  have h3 := (World.ownsRow.stored h2 (i * 7 + 2) (.int .i64 s.src)).1
  have h4 := (World.ownsRow.stored h3 (i * 7 + 3) (.int .i64 s.jump)).1
  have h5 := (World.ownsRow.stored h4 (i * 7 + 4) (.int .i64 s.count)).1
  have h6 := (World.ownsRow.stored h5 (i * 7 + 5) (.int .i64 s.n)).1
  have h7 := (World.ownsRow.stored h6 (i * 7 + 6) (.int .i64 s.k)).1
  unfold OwS
  rw [List.length_set, scs_set ss i s hi]
  exact h7
set_option maxHeartbeats 16000000 in
set_option maxRecDepth 100000 in
theorem stepsDecodes.walk (v : Value) (bs : List Nat) (al : List Addr) (w : World) (hi : InB w v bs) (he : E4 w al) (hO : Ops w) (hE : Errs w al) :
    Calls Tryd.prog 3 #[v] w fun e w' => e = .returned (.bool true) ∧ Below w.heap.size w w' := by
  obtain ⟨n, ao, cap, rfl, hnn⟩ := hi.src.slice
  have hiH : Hid (InB w (.slice ao n cap) bs) := hi
  have hvb : Hid (∀ (a : Addr) (n' c : Nat), bs ≠ [] → Value.slice ao n cap = .slice (some a) n' c → a.block < w.heap.size) := fun a n' c hne e => by
    obtain ⟨q, o, c2, h1, _, h3, _⟩ := hi.some_ hne
    rw [h1] at e
    injection e with e1 _ _
    injection e1 with e1
    rw [← e1]; exact h3
  have eH : Hid (E4 w al) := he
  have oH : Hid (Ops w) := hO
  have rH : Hid (Errs w al) := hE
  have bH : Hid (∀ b ∈ bs, b < 256) := hi.byt
  have lH : Hid (n ≤ 140737488351232) := by show _ ≤ _; rw [hnn.out]; exact hi.big
  obtain ⟨P, hP⟩ := hid_ex (rpg bs)
  obtain ⟨fb, hfb⟩ := hid_ex (rok bs)
  obtain ⟨fv, hfv⟩ := hid_ex (fev al fb)
  obtain ⟨fx, hfx⟩ := hid_ex (fnn fb)
  obtain ⟨N, hN⟩ := hid_ex P.steps.length
  have hN6 : N ≤ 65536 := by rw [← hN.out, ← hP.out]; exact rpg_len bH.out
  have hlv : Hid (Calls Tryd.prog 4 #[] w fun e w' => e = .returned (.bool true) ∧ Below w.heap.size w w') := slives_c al w he hO
  have hnum : Hid (∀ W, Below w.heap.size w W → Calls Tryd.prog 7 #[fv] W fun e w' => e = .returned (.int .i64 fx) ∧ Below W.heap.size W w') := fun W hW => by rw [← hfv.out, ← hfx.out]; exact num_fevD al fb W (rH.out.below hW)
  have hdec : Hid (∀ (W : World) (u : Value), Below w.heap.size w W → SrcB W u bs → Calls Tryd.prog 5 #[u] W fun e w' => ∃ a k, e = .returned (.tuple #[.agg #[.int .i64 P.len, .int .i64 P.cells, .int .i64 P.inn, .int .i64 P.out, .slice a N k], fv]) ∧ OwS w' W.heap.size (.slice a N k) P.steps ∧ Below W.heap.size W w') := fun W u hW hu => by
    refine (sdecode_c u bs al W hu (by have := lH.out; have := hnn.out; omega) bH.out (eH.out.below hW) (oH.out.below hW)).mono fun e w' h => ?_
    obtain ⟨a, m, k, h1, h2, h3, h4⟩ := dc_u h
    have h2' := h2.out
    rw [hP.out, hN.out] at h2'
    subst h2'
    rw [hP.out, hfb.out, hfv.out] at h1
    rw [hP.out] at h3
    exact ⟨a, k, h1, h3, h4⟩
  have hdoc : Hid (∀ (W : World), Below w.heap.size w W → Calls Tryd.prog 6 #[.slice ao n cap] W fun e w' => ∃ a k, e = .returned (.tuple #[.agg #[.int .i64 P.len, .int .i64 P.cells, .int .i64 P.inn, .int .i64 P.out, .slice a N k], .int .i64 fx]) ∧ OwS w' W.heap.size (.slice a N k) P.steps ∧ Below W.heap.size W w') := fun W hW => by
    refine (ddecode_c (.slice ao n cap) bs W (hiH.out.below hW) (fun a n' c h1 h2 => Nat.lt_of_lt_of_le (hvb.out a n' c h1 h2) hW.size)).mono fun e w' h => ?_
    obtain ⟨a, m, k, h1, h2, h3, h4⟩ := dd_u h
    have h2' := h2.out
    rw [hP.out, hN.out] at h2'
    subst h2'
    rw [hP.out, hfb.out, hfx.out] at h1
    rw [hP.out] at h3
    exact ⟨a, k, h1, h3, h4⟩
  clear hi he hO hE
  go_enter Tryd.func3, Tryd.ntmps3
  go_wp2_with fail
  refine hlv.out.mono ?_
  rintro e w2 ⟨rfl, B2⟩
  have B2H : Hid (Below w.heap.size w w2) := B2
  have s2 : Hid (∀ o, SrcB (w2.alloc o) (.slice ao n cap) bs) := fun o => ((hiH.out.below B2).below ((Below.refl _ _).alloc (Nat.le_refl _) o)).src
  have hk0 : Hid (([] : List Nat).length + bs.length ≤ 140737488355328) := by show _ ≤ _; have := lH.out; have := hnn.out; simp; omega
  clear B2 hlv
  go_wp2_with (first | (at_builtin; refine appX _ rfl _ _ rfl [] bs (.slice ao n cap) w2.heap.size 0 0 rfl rfl (own_emptyD w2) (s2.out _) hk0.out ?_) | fail)
  intro v3 w3 ho3 hg3 hn3
  try rw [List.nil_append] at ho3
  have B23 : Hid (Below w2.heap.size w2 w3) := ((Below.refl _ _).alloc (Nat.le_refl _) _).grown hg3 (by simp) fun b hb => by cases hb; exact Nat.le_refl _
  have ho3H : Hid (OwB w3 v3 bs) := ho3
  have hn3H : Hid (∀ b, v3.ownBlock = some b → w2.heap.size ≤ b) := fun b hb => by
    have h := hn3 b hb
    omega
  have s3 : Hid (SrcB (w3.alloc (.cells #[.int .u8 119] 5)) (.slice (some ⟨w3.heap.size, 0, none⟩) 1 1) [119]) := by
    refine .inr ⟨⟨w3.heap.size, 0, none⟩, 1, rfl, fun j u hj => ?_⟩
    match j, hj with
    | 0, hj => simp [bc] at hj; subst hj; simp [Addr.add]
  have hk1 : Hid (bs.length + ([119] : List Nat).length ≤ 140737488355328) := by show _ ≤ _; have := lH.out; have := hnn.out; simp; omega
  clear ho3 hg3 hn3 s2
  go_wp2_with (first | (at_builtin; refine appY _ rfl _ _ rfl bs [119] v3 (.slice (some ⟨w3.heap.size, 0, none⟩) 1 1) rfl rfl (World.ownsRow.alloc ho3H.out _) s3.out hk1.out ?_) | fail)
  intro v4 w4 ho4 hg4 hn4
  have B24 : Hid (Below w2.heap.size w2 w4) := (B23.out.alloc B23.out.size _).grown hg4 (by have := B23.out.size; simp; omega) fun b hb => hn3H.out b hb
  obtain ⟨M, a4, c4, rfl, hM⟩ := ho4.slice
  obtain ⟨F, rfl, hc4, hcells4⟩ := rowB ho4 (by simp)
  have hM1 : M = n + 1 := by rw [hM.out, hnn.out]; simp
  have hF : Hid (w2.heap.size ≤ F ∧ F < w4.heap.size) := by
    refine ⟨?_, (World.ownsRow.lt ho4 F rfl).2⟩
    rcases hn4 F rfl with h | h
    · exact hn3H.out F h
    · have h9 := B23.out.size; omega
  have ho4H : Hid (OwB w4 (.slice (some ⟨F, 0, none⟩) M c4) (bs ++ [119])) := ho4
  have B4 : Hid (Below w.heap.size w w4) := B2H.out.trans (B24.out.mono B2H.out.size)
  have sm : Hid (∀ W, Below w4.heap.size w4 W → SrcB W (.slice (some ⟨F, 0, none⟩) n c4) bs) := fun W hW => by
    have h1 := src_takeD (ho4H.out.belD hW) hM.out n c4 (by rw [← hM.out]; omega)
    rw [hnn.out, List.take_left'] at h1
    · rw [hnn.out]; exact h1
    · rfl
  subst hM1
  clear ho4 hg4 hn4 hcells4 s3 ho3H hn3H
  have hnc : n ≤ c4 := by omega
  go_wp2_with fail
  refine (hdec.out w4 _ B4.out (sm.out w4 (Below.refl _ _))).mono ?_
  rintro e w5 ⟨a1, k1, rfl, O1, Bw5⟩
  obtain ⟨b5, hb5⟩ := hid_ex w5.heap.size
  obtain ⟨w6, ew6⟩ := hid_ex (w5.alloc (.cells #[.int .i64 P.len, .int .i64 P.cells, .int .i64 P.inn, .int .i64 P.out, .slice a1 N k1] 26))
  have Lw6 : Below w5.heap.size w5 w6 := by rw [← ew6.out]; exact (Below.refl _ _).alloc (Nat.le_refl _) _
  have Pw6 : Hid (Below w4.heap.size w4 w6) := Bw5.trans (Lw6.mono Bw5.size)
  have X6 : Hid (Bpf w6 b5 P (.slice a1 N k1)) := by rw [← ew6.out, ← hb5.out]; exact Bpf.new w5 P _
  have O1H : Hid (OwS w6 w4.heap.size (.slice a1 N k1) P.steps) := O1.bel Lw6
  have Rw6 : Hid (Below w.heap.size w w6) := B4.out.trans (Pw6.out.mono B4.out.size)
  have zb5 : Hid (w4.heap.size ≤ b5 ∧ w6.heap.size = b5 + 1) := by rw [← ew6.out, ← hb5.out]; exact ⟨Bw5.size, by simp⟩
  have rb5 : Hid (∀ b, (Value.slice a1 N k1).ownBlock = some b → w4.heap.size ≤ b ∧ b < b5) := fun b hb => by rw [← hb5.out]; exact World.ownsRow.lt O1 b hb
  clear O1 Bw5 Lw6
  go_upto_region 6 with fail
  rw [ew6.out, hb5.out]
  go_wp2_with fail
  refine (hdec.out w6 _ Rw6.out (sm.out w6 Pw6.out)).mono ?_
  rintro e w7 ⟨a2, k2, rfl, O2, Bw7⟩
  obtain ⟨b7, hb7⟩ := hid_ex w7.heap.size
  obtain ⟨w8, ew8⟩ := hid_ex (w7.alloc (.cells #[.int .i64 P.len, .int .i64 P.cells, .int .i64 P.inn, .int .i64 P.out, .slice a2 N k2] 26))
  have Lw8 : Below w7.heap.size w7 w8 := by rw [← ew8.out]; exact (Below.refl _ _).alloc (Nat.le_refl _) _
  have Pw8 : Hid (Below w6.heap.size w6 w8) := Bw7.trans (Lw8.mono Bw7.size)
  have X8 : Hid (Bpf w8 b7 P (.slice a2 N k2)) := by rw [← ew8.out, ← hb7.out]; exact Bpf.new w7 P _
  have O2H : Hid (OwS w8 w6.heap.size (.slice a2 N k2) P.steps) := O2.bel Lw8
  have Rw8 : Hid (Below w.heap.size w w8) := Rw6.out.trans (Pw8.out.mono Rw6.out.size)
  have zb7 : Hid (w6.heap.size ≤ b7 ∧ w8.heap.size = b7 + 1) := by rw [← ew8.out, ← hb7.out]; exact ⟨Bw7.size, by simp⟩
  have rb7 : Hid (∀ b, (Value.slice a2 N k2).ownBlock = some b → w6.heap.size ≤ b ∧ b < b7) := fun b hb => by rw [← hb7.out]; exact World.ownsRow.lt O2 b hb
  clear O2 Bw7 Lw8
  go_upto_region 7 with fail
  rw [ew8.out, hb7.out]
  go_wp2_with fail
  refine (hdoc.out w8 Rw8.out).mono ?_
  rintro e w9 ⟨a3, k3, rfl, O3, Bw9⟩
  obtain ⟨b9, hb9⟩ := hid_ex w9.heap.size
  obtain ⟨wA, ewA⟩ := hid_ex (w9.alloc (.cells #[.int .i64 P.len, .int .i64 P.cells, .int .i64 P.inn, .int .i64 P.out, .slice a3 N k3] 26))
  have LwA : Below w9.heap.size w9 wA := by rw [← ewA.out]; exact (Below.refl _ _).alloc (Nat.le_refl _) _
  have PwA : Hid (Below w8.heap.size w8 wA) := Bw9.trans (LwA.mono Bw9.size)
  have XA : Hid (Bpf wA b9 P (.slice a3 N k3)) := by rw [← ewA.out, ← hb9.out]; exact Bpf.new w9 P _
  have O3H : Hid (OwS wA w8.heap.size (.slice a3 N k3) P.steps) := O3.bel LwA
  have RwA : Hid (Below w.heap.size w wA) := Rw8.out.trans (PwA.out.mono Rw8.out.size)
  have zb9 : Hid (w8.heap.size ≤ b9 ∧ wA.heap.size = b9 + 1) := by rw [← ewA.out, ← hb9.out]; exact ⟨Bw9.size, by simp⟩
  have rb9 : Hid (∀ b, (Value.slice a3 N k3).ownBlock = some b → w8.heap.size ≤ b ∧ b < b9) := fun b hb => by rw [← hb9.out]; exact World.ownsRow.lt O3 b hb
  clear O3 Bw9 LwA
  go_upto_region 8 with fail
  rw [ewA.out, hb9.out]
  go_wp2_with fail
  refine (hnum.out wA RwA.out).mono ?_
  rintro e wB ⟨rfl, BB⟩
  have RwB : Hid (Below w.heap.size w wB) := RwA.out.trans (BB.mono RwA.out.size)
  have PwB : Hid (Below wA.heap.size wA wB) := BB
  clear BB
  go_wp2_with fail
  refine (hnum.out wB RwB.out).mono ?_
  rintro e wC ⟨rfl, BC⟩
  have RwC : Hid (Below w.heap.size w wC) := RwB.out.trans (BC.mono RwB.out.size)
  have PwC : Hid (Below wA.heap.size wA wC) := PwB.out.trans (BC.mono PwB.out.size)
  have P8C : Hid (Below w8.heap.size w8 wC) := PwA.out.trans (PwC.out.mono PwA.out.size)
  have P6C : Hid (Below w6.heap.size w6 wC) := Pw8.out.trans (P8C.out.mono Pw8.out.size)
  have P4C : Hid (Below w4.heap.size w4 wC) := Pw6.out.trans (P6C.out.mono Pw6.out.size)
  obtain ⟨S0, hS0⟩ := hid_ex (mkS bs)
  obtain ⟨S1, hS1⟩ := hid_ex (mkS (bs ++ [119]))
  have cv1 : (convert 22 9 (.slice (some ⟨F, 0, none⟩) (n + 1) c4)).run Tryd.prog wC = .ok (.string S1) wC := by
    rw [← hS1.out]
    exact conv_src (ho4H.out.belD P4C.out).src fun b hb => by
      rcases List.mem_append.1 hb with h | h
      · exact bH.out b h
      · simp at h; omega
  have cv2 : (convert 22 9 (.slice ao n cap)).run Tryd.prog wC = .ok (.string S0) wC := by
    rw [← hS0.out]
    exact conv_src (hiH.out.below RwC.out).src bH.out
  have cv3 : ∀ W : World, (Op.stringOp .add S0 ⟨#[119]⟩).run Tryd.prog W = .ok (.string S1) W := fun W => by
    rw [← hS0.out, ← hS1.out, ← mkS_snoc]
    refine run_string_add_sum W _ _ ?_
    rw [mkS_size]
    have h1 := lH.out
    have h2 := hnn.out
    show bs.length + 1 ≤ _
    omega
  clear BC hnum hdec hdoc
  have lHn : n ≤ 140737488351232 := lH.out
  go_wp2_with fail
  clear cv1 cv2 cv3
  go_loopw [59] (fun i wr => ∃ (k : Nat) (ys : List Nat), k ≤ n + 1 ∧ i = .int .i64 k ∧ Hid (OwB wr (.slice (some ⟨F, 0, none⟩) (n + 1) c4) ys) ∧ Hid (ys.length = n + 1 ∧ ∀ b ∈ ys, b < 256) ∧ Hid (Fr (fun k => k = F) wC wr)) (fun i _ => n + 1 - (intOf i).toNat)
  case atStart =>
    refine ⟨0, bs ++ [119], Nat.zero_le _, rfl, ho4H.out.belD P4C.out, ⟨by simp [hnn.out], fun b hb => ?_⟩, Fr.refl _ _⟩
    rcases List.mem_append.1 hb with h | h
    · exact bH.out b h
    · simp at h; omega
  case round =>
    obtain ⟨k, ys, hk, rfl, hOl, hzl, hfl⟩ := hrel
    by_cases hlt : k < n + 1
    · have hlt' : (k : Int) < (n : Int) + 1 := by omega
      obtain ⟨qa, hqa, hcap1, hcells⟩ := rowB hOl.out (fun hh => by have h8 := hzl.out.1; rw [hh, List.length_nil] at h8; omega)
      injection hqa with hqa
      injection hqa with hqa _ _
      subst hqa
      have hcl := hcells k (by rw [hzl.out.1]; exact hlt)
      obtain ⟨y, hy, hy2⟩ := xor33 (ys.getD k 0) (hzl.out.2 _ (by rw [List.getD_eq_getElem?_getD, List.getElem?_eq_getElem (by rw [hzl.out.1]; exact hlt), Option.getD_some]; exact List.getElem_mem _))
      generalize ys.getD k 0 = z0 at hcl hy
      have hst := ownB_setD (i := k) (y := y) hzl.out.1.symm hOl.out
      have hfz := hst.2
      have hO2 : Hid (OwB (wr.setCell ⟨F, k, none⟩ (.int .u8 (y : Int))) (.slice (some ⟨F, 0, none⟩) (n + 1) c4) (ys.set k y)) := hst.1
      have hz2 : Hid ((ys.set k y).length = n + 1 ∧ ∀ b ∈ ys.set k y, b < 256) := ⟨by rw [List.length_set]; exact hzl.out.1, fun b hb => by
        rcases List.mem_or_eq_of_mem_set hb with h8 | h8
        · exact hzl.out.2 b h8
        · rw [h8]; exact hy2⟩
      clear hst hcells hy2
      go_wp2_with fail
      go_roundw
      case rel => exact ⟨k + 1, _, by omega, by go_num, hO2, hz2, hfl.out.setCell (p := ⟨F, k, none⟩) rfl _⟩
      case measure => simp [intOf]; omega
    · have hlt' : decide ((k : Int) < (n : Int) + 1) = false := decide_eq_false (by omega)
      have hsz : Hid (F < w4.heap.size ∧ w4.heap.size ≤ b5 ∧ b5 < w6.heap.size ∧ w6.heap.size ≤ b7 ∧ b7 < w8.heap.size ∧ w8.heap.size ≤ b9 ∧ b9 < wA.heap.size ∧ w.heap.size ≤ w4.heap.size ∧ w2.heap.size ≤ F ∧ w.heap.size ≤ w2.heap.size) := by
        have h1 := hF.out
        have h2 := zb5.out
        have h3 := zb7.out
        have h4 := zb9.out
        have h5 := B4.out.size
        have h6 := B2H.out.size
        exact ⟨h1.2, h2.1, by omega, h3.1, by omega, h4.1, by omega, h5, h1.1, h6⟩
      have r1 := rb5
      have r2 := rb7
      have r3 := rb9
      have f6 : Hid (Fr (fun k => k = F) w6 wr) := (Fr.of_below P6C.out fun k h1 h2 => by omega).then hfl.out
      have f8 : Hid (Fr (fun k => k = F) w8 wr) := (Fr.of_below P8C.out fun k h1 h2 => by omega).then hfl.out
      have fA : Hid (Fr (fun k => k = F) wA wr) := (Fr.of_below PwC.out fun k h1 h2 => by omega).then hfl.out
      have Xr6 : Hid (Bpf wr b5 P (.slice a1 N k1)) := X6.out.fr f6.out (by have := hsz.out; omega)
      have Xr8 : Hid (Bpf wr b7 P (.slice a2 N k2)) := X8.out.fr f8.out (by have := hsz.out; omega)
      have XrA : Hid (Bpf wr b9 P (.slice a3 N k3)) := XA.out.fr fA.out (by have := hsz.out; omega)
      have Or1 : Hid (OwS wr w4.heap.size (.slice a1 N k1) P.steps) := O1H.out.fr f6.out fun b hb => by have := r1.out b hb; have := hsz.out; omega
      have Or2 : Hid (OwS wr w6.heap.size (.slice a2 N k2) P.steps) := O2H.out.fr f8.out fun b hb => by have := r2.out b hb; have := hsz.out; omega
      have Or3 : Hid (OwS wr w8.heap.size (.slice a3 N k3) P.steps) := O3H.out.fr fA.out fun b hb => by have := r3.out b hb; have := hsz.out; omega
      have Bwr : Hid (Below w.heap.size w wr) := hfl.out.below RwC.out RwC.out.size fun k _ hk => by have := hsz.out; omega
      have sAr : Hid (wA.heap.size ≤ wr.heap.size) := fA.out.size
      have hsm : Hid (∀ (W : World) (a b : Option Addr) (c d : Nat), Ss W a P.steps → Ss W b P.steps → Calls Tryd.prog 8 #[.agg #[.int .i64 P.len, .int .i64 P.cells, .int .i64 P.inn, .int .i64 P.out, .slice a N c], .agg #[.int .i64 P.len, .int .i64 P.cells, .int .i64 P.inn, .int .i64 P.out, .slice b N d]] W fun e w' => e = .returned (.bool true) ∧ Below W.heap.size W w') := fun W a b c d ha hb => by
        have h1 := dsame_c P P a b N N c d W ha hb hN.out.symm hN.out.symm (by omega)
        rw [pgeq_iff.2 rfl] at h1
        exact h1
      obtain ⟨x0, x1, x2, x3, x4⟩ := Xr6.out.bx
      obtain ⟨y0, y1, y2, y3, y4⟩ := XrA.out.bx
      clear hOl hzl
      go_wp2_with fail
      refine (hsm.out wr a1 a3 k1 k3 Or1.out.sl Or3.out.sl).mono ?_
      rintro e wD ⟨rfl, BD⟩
      have BDH : Hid (Below wr.heap.size wr wD) := BD
      clear x0 x1 x2 x3 x4 y0 y1 y2 y3 y4 BD
      obtain ⟨x0, x1, x2, x3, x4⟩ := (Xr8.out.fr (Fr.bel BDH.out) id).bx
      obtain ⟨y0, y1, y2, y3, y4⟩ := (XrA.out.fr (Fr.bel BDH.out) id).bx
      go_wp2_with fail
      refine (hsm.out wD a2 a3 k2 k3 (Or2.out.bel BDH.out).sl (Or3.out.bel BDH.out).sl).mono ?_
      rintro e wE ⟨rfl, BE⟩
      have BEH : Hid (Below wr.heap.size wr wE) := BDH.out.trans (BE.mono BDH.out.size)
      have Xe6 : Hid (Bpf wE b5 P (.slice a1 N k1)) := Xr6.out.fr (Fr.bel BEH.out) id
      have Xe8 : Hid (Bpf wE b7 P (.slice a2 N k2)) := Xr8.out.fr (Fr.bel BEH.out) id
      have XeA : Hid (Bpf wE b9 P (.slice a3 N k3)) := XrA.out.fr (Fr.bel BEH.out) id
      have Oe1 : Hid (OwS wE w4.heap.size (.slice a1 N k1) P.steps) := Or1.out.bel BEH.out
      have Oe2 : Hid (OwS wE w6.heap.size (.slice a2 N k2) P.steps) := Or2.out.bel BEH.out
      have Oe3 : Hid (OwS wE w8.heap.size (.slice a3 N k3) P.steps) := Or3.out.bel BEH.out
      have Bwe : Hid (Below w.heap.size w wE) := Bwr.out.trans (BEH.out.mono Bwr.out.size)
      have sAe : Hid (wA.heap.size ≤ wE.heap.size) := Nat.le_trans sAr.out BEH.out.size
      clear x0 x1 x2 x3 x4 y0 y1 y2 y3 y4 BE BDH Xr6 Xr8 XrA Or1 Or2 Or3 f6 f8 fA
      have x4 := Xe6.out.bx.c4
      go_wp2_with fail
      clear x4
      go_loopw [82] (fun i wr => ∃ (k : Nat) (ss : List Sp.St), k ≤ N ∧ i = .int .i64 k ∧ Hid (OwS wr w4.heap.size (.slice a1 N k1) ss) ∧ Hid (ss.length = N) ∧ Hid (Fr (fun k => (Value.slice a1 N k1).ownBlock = some k) wE wr)) (fun i _ => N - (intOf i).toNat)
      case atStart => exact ⟨0, P.steps, Nat.zero_le _, rfl, Oe1, hN.out, Fr.refl _ _⟩
      case round =>
        obtain ⟨k', ss, hk', rfl, hOs, hsl, hfs⟩ := hrel
        have X5 : Hid (Bpf wr b5 P (.slice a1 N k1)) := Xe6.out.fr hfs.out fun e => by have := r1.out _ e; omega
        by_cases hlt2 : k' < N
        · have hlt3 : (k' : Int) < (N : Int) := by omega
          obtain ⟨Q, rfl⟩ : ∃ Q, a1 = some ⟨Q, 0, none⟩ := by
            have hh : wr.ownsRow w4.heap.size 36 7 (.slice a1 N k1) ss.length (scs ss) := hOs.out
            rcases hh.2 with ⟨_, h1⟩ | ⟨g, cap, cur, h1, _⟩
            · have := hsl.out; omega
            · injection h1 with h1 _ _; exact ⟨g, h1⟩
          have hNk : Hid (N ≤ k1) := by
            have hh : wr.ownsRow w4.heap.size 36 7 (.slice (some ⟨Q, 0, none⟩) N k1) ss.length (scs ss) := hOs.out
            rcases hh.2 with ⟨h1, _⟩ | ⟨g', cap', cur, h1, h2, h3, h4, h5⟩
            · cases h1
            · injection h1 with h6 h7 h8; show _ ≤ _; omega
          obtain ⟨so, hso⟩ : ∃ s, ss[k']? = some s := ⟨_, List.getElem?_eq_getElem (by rw [hsl.out]; exact hlt2)⟩
          obtain ⟨q', o', hq', hat⟩ := hOs.out.sl k' so hso
          injection hq' with hq'
          injection hq' with hq1 hq2 _
          subst hq1; subst hq2
          rw [Nat.zero_add] at hat
          obtain ⟨c0, c1, c2, c3, c4', c5, c6⟩ := hat
          have hh2 : wr.ownsRow w4.heap.size 36 7 (.slice (some ⟨Q, 0, none⟩) N k1) N (scs ss) := by have h := hOs.out; unfold OwS at h; rw [hsl.out] at h; exact h
          have fz := fun i => World.ownsRow.frozenAt hh2 i
          clear hh2
          have hpu : Hid (OwS (((((((wr.setCell ⟨Q, k' * 7 + 0, none⟩ (.int .i64 99)).setCell ⟨Q, k' * 7 + 1, none⟩ (.int .i64 0)).setCell ⟨Q, k' * 7 + 2, none⟩ (.int .i64 0)).setCell ⟨Q, k' * 7 + 3, none⟩ (.int .i64 0)).setCell ⟨Q, k' * 7 + 4, none⟩ (.int .i64 0)).setCell ⟨Q, k' * 7 + 5, none⟩ (.int .i64 0)).setCell ⟨Q, k' * 7 + 6, none⟩ (.int .i64 0)) w4.heap.size (.slice (some ⟨Q, 0, none⟩) N k1) (ss.set k' s99)) := hOs.out.put hsl.out.symm hlt2 s99
          have hsl2 : Hid ((ss.set k' s99).length = N) := by show _ = _; rw [List.length_set]; exact hsl.out
          have x4 := X5.out.bx.c4
          have hNk2 : N ≤ k1 := hNk.out
          clear hso
          go_wp2_with fail
          go_roundw
          case rel => exact ⟨k' + 1, ss.set k' s99, by omega, by go_num, hpu, hsl2, ((((((hfs.out.setCell (p := ⟨Q, k' * 7 + 0, none⟩) rfl _).setCell (p := ⟨Q, k' * 7 + 1, none⟩) rfl _).setCell (p := ⟨Q, k' * 7 + 2, none⟩) rfl _).setCell (p := ⟨Q, k' * 7 + 3, none⟩) rfl _).setCell (p := ⟨Q, k' * 7 + 4, none⟩) rfl _).setCell (p := ⟨Q, k' * 7 + 5, none⟩) rfl _).setCell (p := ⟨Q, k' * 7 + 6, none⟩) rfl _⟩
          case measure => simp [intOf]; omega
        · have hlt3 : decide ((k' : Int) < (N : Int)) = false := decide_eq_false (by omega)
          have Oa : Hid (∀ o, OwS (wr.alloc o) w4.heap.size (.slice a1 N k1) ss) := fun o => hOs.out.bel ((Below.refl _ _).alloc (Nat.le_refl _) o)
          have C7 : Hid (SAt (wr.alloc (.cells #[.int .i64 98, .int .i64 0, .int .i64 0, .int .i64 0, .int .i64 0, .int .i64 0, .int .i64 0] 36)) wr.heap.size 0 s98) := ⟨by simp [s98], by simp [s98], by simp [s98], by simp [s98], by simp [s98], by simp [s98], by simp [s98]⟩
          have hkb : Hid ((ss.length + 1) * 56 ≤ 140737488355328) := by show _ ≤ _; have := hsl.out; omega
          have s4e : Hid (w4.heap.size ≤ wE.heap.size) := by have h1 := sAe.out; have h2 := hsz.out; show _ ≤ _; omega
          have hB : Hid (∀ o : Obj, w4.heap.size ≤ (wr.alloc o).heap.size) := fun o => by have h1 := hfs.out.size; have h2 := s4e.out; simp; omega
          have x4 := X5.out.bx.c4
          go_wp2_with (first | (at_builtin; refine appSt _ rfl _ _ rfl w4.heap.size ss s98 wr.heap.size (.slice a1 N k1) rfl rfl (Oa.out _) C7.out hkb.out (hB.out _) ?_) | fail)
          intro v' wF ho hgr hn
          have F1 : Hid (Fr (fun k => (Value.slice a1 N k1).ownBlock = some k) wE wF) := (hfs.out.alloc _).grown hgr fun _ hk => hk
          have nb5 : Hid (¬ (Value.slice a1 N k1).ownBlock = some b5) := fun e => by have := r1.out _ e; omega
          have XF : Hid (Bpf wF b5 P (.slice a1 N k1)) := Xe6.out.fr F1.out nb5.out
          obtain ⟨a', c', hv'⟩ := owns_slice ho
          rw [List.length_append, hsl.out] at hv'
          have hv2 : v' = .slice a' (N + 1) c' := hv'
          subst hv2
          clear hv'
          have hoH : Hid (OwS wF w4.heap.size (.slice a' (N + 1) c') (ss ++ [s98])) := ho
          obtain ⟨Q, rfl⟩ : ∃ Q, a' = some ⟨Q, 0, none⟩ := by
            have hh : wF.ownsRow w4.heap.size 36 7 (.slice a' (N + 1) c') (ss ++ [s98]).length (scs (ss ++ [s98])) := ho
            rcases hh.2 with ⟨_, h1⟩ | ⟨g, cap, cur, h1, _⟩
            · simp at h1
            · injection h1 with h1 _ _; exact ⟨g, h1⟩
          have hcQ : Hid (N + 1 ≤ c') := by
            have hh : wF.ownsRow w4.heap.size 36 7 (.slice (some ⟨Q, 0, none⟩) (N + 1) c') (ss ++ [s98]).length (scs (ss ++ [s98])) := ho
            rcases hh.2 with ⟨h1, _⟩ | ⟨g', cap', cur, h1, h2, h3, h4, h5⟩
            · cases h1
            · injection h1 with h6 h7 h8; show _ ≤ _; omega
          have hQ5 : Hid (¬ Q = b5) := fun e => by
            rcases hn Q rfl with h1 | h1
            · rw [e] at h1; exact nb5.out h1
            · have h2 := hfs.out.size; have h3 := sAe.out; have h4 := hsz.out; omega
          obtain ⟨wG, ewG⟩ := hid_ex (wF.setCell ⟨b5, 4, none⟩ (.slice (some ⟨Q, 0, none⟩) (N + 1) c'))
          have fs := set_fr wF b5 4 (.slice (some ⟨Q, 0, none⟩) (N + 1) c')
          rw [ewG.out] at fs
          have F2 : Hid (Fr (fun k => (Value.slice a1 N k1).ownBlock = some k ∨ k = b5) wE wG) := (F1.out.mono fun _ _ h => .inl h).trans fs fun k hk => .inl (.inr hk)
          have nS : Hid (∀ k, w6.heap.size ≤ k → ¬ ((Value.slice a1 N k1).ownBlock = some k ∨ k = b5)) := fun k hk h => by
            have h2 := hsz.out
            rcases h with h | h
            · have := r1.out _ h; omega
            · omega
          have Xg8 : Hid (Bpf wG b7 P (.slice a2 N k2)) := Xe8.out.fr F2.out (nS.out b7 (by have := hsz.out; omega))
          have XgA : Hid (Bpf wG b9 P (.slice a3 N k3)) := XeA.out.fr F2.out (nS.out b9 (by have := hsz.out; omega))
          have Og2 : Hid (OwS wG w6.heap.size (.slice a2 N k2) P.steps) := Oe2.out.fr F2.out fun b hb => nS.out b (r2.out b hb).1
          have Og3 : Hid (OwS wG w8.heap.size (.slice a3 N k3) P.steps) := Oe3.out.fr F2.out fun b hb => nS.out b (by have := (r3.out b hb).1; have := hsz.out; omega)
          have Og1 : Hid (OwS wG w4.heap.size (.slice (some ⟨Q, 0, none⟩) (N + 1) c') (ss ++ [s98])) := hoH.out.fr fs fun b hb h => by
            have e : Q = b := Option.some.inj hb
            exact hQ5.out (by omega)
          have Xg5 : Hid (wG.cell? ⟨b5, 4, none⟩ = some (.slice (some ⟨Q, 0, none⟩) (N + 1) c')) := by rw [← ewG.out]; exact World.cell?_setCell_same _ _ _ XF.out.bx.c4
          have Bwg : Hid (Below w.heap.size w wG) := F2.out.below Bwe.out Bwe.out.size fun k _ hk => by
            have h2 := hsz.out
            rcases hk with h | h
            · have := r1.out _ h; omega
            · omega
          have v8 := XF.out.bx.c4
          have f8 := XF.out.fz 4
          obtain ⟨x0, x1, x2, x3, x4'⟩ := Xg8.out.bx
          obtain ⟨y0, y1, y2, y3, y4⟩ := XgA.out.bx
          clear ho hgr hn fs x4
          go_upto_region 23 with fail
          rw [ewG.out]
          go_wp2_with fail
          refine (hsm.out wG a2 a3 k2 k3 Og2.out.sl Og3.out.sl).mono ?_
          rintro e wH ⟨rfl, BH⟩
          have hop : wH.cell? ⟨Q, N * 7, none⟩ = some (.int .i64 98) := by
            obtain ⟨q', o', h1, h2⟩ := (Og1.out.bel BH).sl N s98 (by rw [List.getElem?_append_right (by rw [hsl.out]; exact Nat.le_refl _), hsl.out]; simp)
            injection h1 with h1
            injection h1 with i1 i2
            subst i1 i2
            have h3 := h2.c0
            rw [Nat.zero_add] at h3
            exact h3
          have x5 : wH.cell? ⟨b5, 4, none⟩ = some (.slice (some ⟨Q, 0, none⟩) (N + 1) c') := (BH.cell (cell_lt Xg5.out)).trans Xg5.out
          have Bwh : Hid (Below w.heap.size w wH) := Bwg.out.trans (BH.mono Bwg.out.size)
          have hcn : N + 1 ≤ c' := hcQ.out
          have hnw : wrap64 ((N : Int) + 1 - 1) = (N : Int) := by
            rw [show (N : Int) + 1 - 1 = (N : Int) by omega]
            unfold wrap64; omega
          clear x0 x1 x2 x3 x4' y0 y1 y2 y3 y4 BH v8 f8
          go_wp2_with fail
          go_ret
          exact ⟨rfl, Bwh.out⟩
end Go.Proofs.YtmlfichdfeblpaaDoor
