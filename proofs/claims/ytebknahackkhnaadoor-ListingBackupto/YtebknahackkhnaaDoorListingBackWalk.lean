/-
  The statement ListingBack: the walk.
-/
import Derived.Test.YtebknahackkhnaaDoorSlv
import Derived.Test.YtebknahackkhnaaDoorLi2
import Derived.Test.YtebknahackkhnaaDoorSd4
namespace Go.Proofs.YtebknahackkhnaaDoor
open Flo Go.RowKit
/-- a text, or none -/
def oty (b : Bool) (l : List UInt8) : List UInt8 := bif b then l else []
theorem txv_v (al : List Addr) (p : Sp.Pg) : txv al p = .tuple #[.string (txb (oty (p.steps.all Sp.fm) (ltx p))), fev al (p.steps.all Sp.fm)] := by
  unfold txv oty fev; cases p.steps.all Sp.fm <;> rfl
theorem lnv_v (al : List Addr) (s : Sp.St) : lnv al s = .tuple #[.string (txb (oty (Sp.fm s) (lin s))), fev al (Sp.fm s)] := by
  unfold lnv oty fev; cases Sp.fm s <;> rfl
theorem fev_eq (al : List Addr) (b : Bool) (w : World) : (binOp .eql 29 (fev al b) .nilIface).run Tryd.prog w = .ok (.bool b) w := by
  cases b
  · unfold fev ek ev; kernel_rfl
  · exact nil16 w
theorem guard_fev (al : List Addr) (c : Bool) (op : BinOp) (t : TypeId) (x : Operand) (b : Value) (w : World) : (eqGuard op t x (.const .nilIface) (fev al c) b).run Tryd.prog w = .ok () w := by
  cases c
  · exact guard_c al 8 op t x _ b w
  · unfold fev; cases op <;> cases b <;> first | rfl | (simp [eqGuard, go_sem]; done) | kernel_rfl
theorem ne_same (al : List Addr) (j : Nat) (w : World) : (binOp .neq 29 (ek al j) (ek al j)).run Tryd.prog w = .ok (.bool false) w := by
  obtain ⟨i, d, hi, ci, hd, sd⟩ := err_info
  unfold ek ev
  generalize al.getD j ⟨0, 0, none⟩ = a
  simp only [binOp]
  simp [Op.equal, Op.maxDepth, run_equalIn_iface_ptr_same w 9998 a Tryd.underlying29 Tryd.underlying144 hi ci hd]
theorem eq_sameB (al : List Addr) (j : Nat) (w : World) : (binOp .eql 29 (ek al j) (ek al j)).run Tryd.prog w = .ok (.bool true) w := by
  obtain ⟨i, d, hi, ci, hd, sd⟩ := err_info
  unfold ek ev
  exact run_eql_iface_ptr_same w _ Tryd.underlying29 Tryd.underlying144 hi ci hd
/-- what a sentinel points to lies in a row of its own -/
def Rw8 (w : World) (al : List Addr) : Prop := (∃ c t, w.heap[(al.getD 5 ⟨0, 0, none⟩).block]? = some (.cells c t (0, 0))) ∧ ∃ c t, w.heap[(al.getD 8 ⟨0, 0, none⟩).block]? = some (.cells c t (0, 0))
theorem heap_below {w w' : World} (hb : Below w.heap.size w w') {i : Nat} {o : Obj} (h : w.heap[i]? = some o) : w'.heap[i]? = some o := by
  rw [hb.block i (Array.getElem?_eq_some_iff.1 h).1]; exact h
theorem eq_diff {w W : World} {al : List Addr} (hd9 : al.getD 5 ⟨0, 0, none⟩ ≠ al.getD 8 ⟨0, 0, none⟩) (hr : Rw8 w al) (hb : Below w.heap.size w W) : (binOp .eql 29 (ek al 8) (ek al 5)).run Tryd.prog W = .ok (.bool false) W := by
  obtain ⟨i, d, hi, ci, hd, sd⟩ := err_info
  obtain ⟨⟨c1, t1, r1⟩, ⟨c2, t2, r2⟩⟩ := hr
  unfold ek ev
  exact run_eql_iface_ptr_other W Tryd.underlying29 Tryd.underlying144 hi ci hd sd (fun e => hd9 e.symm) (heap_below hb r2) (heap_below hb r1)
theorem neq_nil16 (w : World) : (binOp .neq 29 .nilIface .nilIface).run Tryd.prog w = .ok (.bool false) w := by kernel_rfl
theorem guard_nilB (op : BinOp) (t : TypeId) (x : Operand) (b : Value) (w : World) : (eqGuard op t x (.const .nilIface) .nilIface b).run Tryd.prog w = .ok () w := by
  cases op <;> cases b <;> first | rfl | (simp [eqGuard, go_sem]; done) | kernel_rfl
/-- the lines as the statement joins them -/
def lnj (ss : List Sp.St) : List UInt8 := ss.flatMap fun s => oty (Sp.fm s) (lin s) ++ [10]
theorem lnj_snoc (ss : List Sp.St) (s : Sp.St) : lnj (ss ++ [s]) = lnj ss ++ (oty (Sp.fm s) (lin s) ++ [10]) := by simp [lnj]
theorem lnj_all : ∀ (ss : List Sp.St), (∀ s ∈ ss, Sp.fm s = true) → lnj ss = lins ss
  | [], _ => rfl
  | s :: ss, h => by
    have ih := lnj_all ss fun x hx => h x (List.mem_cons_of_mem _ hx)
    rw [lins_cons, ← ih]
    simp [lnj, h s List.mem_cons_self, oty]
theorem oty_len (s : Sp.St) : (oty (Sp.fm s) (lin s)).length ≤ 55 := by
  cases h : Sp.fm s
  · simp [oty]
  · exact lin_len h
def s99B : Sp.St := ⟨99, 0, 0, 0, 0, 0, 0⟩
theorem scs_setB : ∀ (ss : List Sp.St) (i : Nat) (s : Sp.St), i < ss.length → scs (ss.set i s) = ((((((((scs ss).set (i * 7 + 0) (.int .i64 s.op)).set (i * 7 + 1) (.int .i64 s.dst)).set (i * 7 + 2) (.int .i64 s.src)).set (i * 7 + 3) (.int .i64 s.jump)).set (i * 7 + 4) (.int .i64 s.count)).set (i * 7 + 5) (.int .i64 s.n)).set (i * 7 + 6) (.int .i64 s.k))
  | [], i, s, h => by simp at h
  | x :: xs, 0, s, _ => by simp [scs, sc1]
  | x :: xs, i + 1, s, h => by
    have ih := scs_setB xs i s (by simpa using h)
    have e : ∀ (l : List Value) (k : Nat) (u : Value), (sc1 x ++ l).set ((i + 1) * 7 + k) u = sc1 x ++ l.set (i * 7 + k) u := fun l k u => by
      rw [show (i + 1) * 7 + k = (i * 7 + k) + 7 by omega]; rfl
    have e2 : scs (x :: xs) = sc1 x ++ scs xs := by simp [scs]
    have e3 : scs ((x :: xs).set (i + 1) s) = sc1 x ++ scs (xs.set i s) := by simp [scs]
    rw [e3, ih, e2, e, e, e, e, e, e, e]
theorem OwS.putB {w : World} {B q n c : Nat} {ss : List Sp.St} (h : OwS w B (.slice (some ⟨q, 0, none⟩) n c) ss) (hn : n = ss.length) {i : Nat} (hi : i < n) (s : Sp.St) :
    OwS (((((((w.setCell ⟨q, i * 7 + 0, none⟩ (.int .i64 s.op)).setCell ⟨q, i * 7 + 1, none⟩ (.int .i64 s.dst)).setCell ⟨q, i * 7 + 2, none⟩ (.int .i64 s.src)).setCell ⟨q, i * 7 + 3, none⟩ (.int .i64 s.jump)).setCell ⟨q, i * 7 + 4, none⟩ (.int .i64 s.count)).setCell ⟨q, i * 7 + 5, none⟩ (.int .i64 s.n)).setCell ⟨q, i * 7 + 6, none⟩ (.int .i64 s.k)) B (.slice (some ⟨q, 0, none⟩) n c) (ss.set i s) := by
  subst hn
  have h0 : w.ownsRow B 26 7 (.slice (some ⟨q, 0, none⟩) ss.length c) ss.length (scs ss) := h
  have h1 := (World.ownsRow.stored h0 (i * 7 + 0) (.int .i64 s.op)).1
  have h2 := (World.ownsRow.stored h1 (i * 7 + 1) (.int .i64 s.dst)).1
  have h3 := (World.ownsRow.stored h2 (i * 7 + 2) (.int .i64 s.src)).1
  have h4 := (World.ownsRow.stored h3 (i * 7 + 3) (.int .i64 s.jump)).1
  have h5 := (World.ownsRow.stored h4 (i * 7 + 4) (.int .i64 s.count)).1
  have h6 := (World.ownsRow.stored h5 (i * 7 + 5) (.int .i64 s.n)).1
  have h7 := (World.ownsRow.stored h6 (i * 7 + 6) (.int .i64 s.k)).1
  unfold OwS
  rw [List.length_set, scs_setB ss i s hi]
  exact h7
theorem OwS.belB {w w' : World} {B : Nat} {v : Value} {ss : List Sp.St} (h : OwS w B v ss) (hb : Below w.heap.size w w') : OwS w' B v ss := h.fr (Fr.bel hb) fun _ _ h => h
theorem OwS.slB {w : World} {B : Nat} {a : Option Addr} {m k : Nat} {ss : List Sp.St} (h : OwS w B (.slice a m k) ss) : Ss w a ss := by
  obtain ⟨ao, cap, h1, h2⟩ := h.ss
  injection h1 with e1 _ _
  rw [e1]; exact h2
set_option maxHeartbeats 16000000 in
set_option maxRecDepth 100000 in
theorem listingBack.walk (p : Sp.Pg) (ao : Option Addr) (c : Nat) (sx : List UInt8) (al : List Addr) (w : World) (ha : Ss w ao p.steps) (hb9 : p.steps.length * 56 ≤ 140737488351232) (hs : sx.length ≤ 1048576) (hin : Pin p) (hL : Lf w al) (hdf : al.getD 5 ⟨0, 0, none⟩ ≠ al.getD 8 ⟨0, 0, none⟩) (hrw : Rw8 w al) :
    Calls Tryd.prog 5 #[pv p (.slice ao p.steps.length c), .string (txb sx)] w fun e w' => e = .returned (.bool true) ∧ Below w.heap.size w w' := by
  obtain ⟨n, hn⟩ := hid_ex3 p.steps.length
  rw [hn.out] at hb9 ⊢
  have hb : n ≤ 2513169434843 := by omega
  clear hb9
  obtain ⟨bp, hbp⟩ := hid_ex3 w.heap.size
  obtain ⟨w1, ew1⟩ := hid_ex3 (w.alloc (.cells #[.int .i64 p.len, .int .i64 p.cells, .int .i64 p.inn, .int .i64 p.out, .slice ao n c] 24))
  have B1 : Hid (Below w.heap.size w w1) := by rw [← ew1.out]; exact (Below.refl _ _).alloc (Nat.le_refl _) _
  have X1 : Hid (Bpg w1 bp p (.slice ao n c)) := by rw [← ew1.out, ← hbp.out]; exact Bpg.new w p (.slice ao n c)
  have LH : Hid (Lf w al) := hL
  have aH : Hid (Ss w ao p.steps) := ha
  have inH : Hid (Pin p) := hin
  have sH : Hid (sx.length ≤ 1048576) := hs
  have rowH : Hid (Rw8 w al) := hrw
  have dH : Hid (al.getD 5 ⟨0, 0, none⟩ ≠ al.getD 8 ⟨0, 0, none⟩) := hdf
  have hlv : Hid (Calls Tryd.prog 7 #[] w1 fun e w' => e = .returned (.bool true) ∧ Below w1.heap.size w1 w') := llives_c al w1 (hL.le.below B1.out)
  obtain ⟨fb, hfb⟩ := hid_ex3 (p.steps.all Sp.fm)
  obtain ⟨fv, hfv⟩ := hid_ex3 (fev al fb)
  obtain ⟨T, hT⟩ := hid_ex3 (txb (oty fb (ltx p)))
  obtain ⟨SX, hSX⟩ := hid_ex3 (txb sx)
  have htx : Hid (∀ (W : World), Below w.heap.size w W → Calls Tryd.prog 8 #[.agg #[.int .i64 p.len, .int .i64 p.cells, .int .i64 p.inn, .int .i64 p.out, .slice ao n c]] W fun e w' => e = .returned (.tuple #[.string T, fv]) ∧ Below W.heap.size W w') := fun W hW => by
    have h1 := ltext_c p ao c W al (aH.out.below hW) (by rw [hn.out]; omega) inH.out (LH.out.le.below hW)
    rw [hn.out, txv_v, hfb.out, hT.out, hfv.out] at h1
    exact h1
  rw [hSX.out]
  clear ha hin hL hs hdf hrw
  unfold pv
  go_enter Tryd.func5, Tryd.ntmps5
  go_upto_region 1 with fail
  rw [ew1.out, hbp.out]
  go_wp2_with fail
  refine hlv.out.mono ?_
  rintro e w2 ⟨rfl, B2⟩
  have R2 : Hid (Below w.heap.size w w2) := B1.out.trans (B2.mono B1.out.size)
  have X2 : Hid (Bpg w2 bp p (.slice ao n c)) := X1.out.below B2
  clear B2 hlv X1
  obtain ⟨x0, x1, x2, x3, x4⟩ := X2.out
  go_wp2_with fail
  refine (htx.out w2 R2.out).mono ?_
  rintro e w3 ⟨rfl, B3⟩
  have R3 : Hid (Below w.heap.size w w3) := R2.out.trans (B3.mono R2.out.size)
  have X3 : Hid (Bpg w3 bp p (.slice ao n c)) := X2.out.below B3
  clear x0 x1 x2 x3 x4 B3 X2 htx
  have x4 := X3.out.c4
  go_wp2_with fail
  clear x4
  go_loopw [35, 8, 9] (fun i u g wr => ∃ k : Nat, k ≤ n ∧ i = .int .i64 k ∧ u = .string (txb (lnj (p.steps.take k))) ∧ g = .bool ((p.steps.take k).all Sp.fm) ∧ Hid ((lnj (p.steps.take k)).length ≤ 65536) ∧ Hid (Below w.heap.size w wr) ∧ Hid (Bpg wr bp p (.slice ao n c))) (fun i _ _ _ => n - (intOf i).toNat)
  case atStart => exact ⟨0, Nat.zero_le _, rfl, rfl, rfl, (by decide : (0 : Nat) ≤ 65536), R3, X3⟩
  case round =>
    obtain ⟨k, hk, rfl, rfl, rfl, hlk, Rk, Xk⟩ := hrel
    by_cases hlt : k < n
    · have hlt' : (k : Int) < (n : Int) := by omega
      obtain ⟨s, hs⟩ : ∃ s, p.steps[k]? = some s := ⟨_, List.getElem?_eq_getElem (by rw [hn.out]; exact hlt)⟩
      obtain ⟨q, o, rfl, hat⟩ := aH.out k s hs
      obtain ⟨y0, y1, y2, y3, y4, y5, y6⟩ := hat.below Rk.out
      obtain ⟨wb, ewb⟩ := hid_ex3 (wr.alloc (.cells #[.int .i64 s.op, .int .i64 s.dst, .int .i64 s.src, .int .i64 s.jump, .int .i64 s.count, .int .i64 s.n, .int .i64 s.k] 26))
      have Bb : Hid (Below wr.heap.size wr wb) := by rw [← ewb.out]; exact (Below.refl _ _).alloc (Nat.le_refl _) _
      have Rb : Hid (Below w.heap.size w wb) := Rk.out.trans (Bb.out.mono Rk.out.size)
      have Zb : Hid (Bst wb wr.heap.size s.op s.dst s.src s.jump s.count s.n s.k) := by show Bst _ _ _ _ _ _ _ _ _; rw [← ewb.out]; exact Bst.new wr _ _ _ _ _ _ _
      have Xb : Hid (Bpg wb bp p (.slice (some ⟨q, o, none⟩) n c)) := Xk.out.below Bb.out
      have htk : Hid (p.steps.take (k + 1) = p.steps.take k ++ [s]) := by show _ = _; rw [List.take_add_one, hs]; rfl
      have hlc : Hid (Calls Tryd.prog 12 #[sv s] wb fun e w' => e = .returned (lnv al s) ∧ Below wb.heap.size wb w') := lline_c s wb al (LH.out.le.below Rb.out)
      have hol : Hid ((oty (Sp.fm s) (lin s)).length ≤ 55) := oty_len s
      rw [lnv_v] at hlc
      unfold sv sva at hlc
      clear hs hat
      obtain ⟨gb, hgb⟩ := hid_ex3 (Sp.fm s)
      obtain ⟨A, hA⟩ := hid_ex3 ((p.steps.take k).all Sp.fm)
      have hA2 : Hid ((p.steps.take (k + 1)).all Sp.fm = (A && gb)) := by rw [htk.out, List.all_append, hA.out]; simp [hgb.out, Hid]
      have hj2 : Hid (lnj (p.steps.take (k + 1)) = lnj (p.steps.take k) ++ (oty gb (lin s) ++ [10])) := by rw [htk.out, lnj_snoc, hgb.out]; exact (rfl : _ = _)
      rw [hgb.out] at hlc hol
      obtain ⟨M, hM⟩ := hid_ex3 (oty gb (lin s))
      obtain ⟨J, hJ⟩ := hid_ex3 (lnj (p.steps.take k))
      rw [hM.out] at hlc hol hj2
      rw [hJ.out] at hlk hj2
      rw [hA.out, hJ.out]
      obtain ⟨lv, hlv⟩ := hid_ex3 (fev al gb)
      have hq : ∀ W : World, (binOp .eql 29 lv .nilIface).run Tryd.prog W = .ok (.bool gb) W := fun W => by rw [← hlv.out]; exact fev_eq al gb W
      have hgd : ∀ (op : BinOp) (t : TypeId) (x : Operand) (b : Value) (W : World), (eqGuard op t x (.const .nilIface) lv b).run Tryd.prog W = .ok () W := fun op t x b W => by rw [← hlv.out]; exact guard_fev al gb op t x b W
      rw [hlv.out] at hlc
      have a1 : ∀ W : World, (Op.stringOp .add (txb M) ⟨#[10]⟩).run Tryd.prog W = .ok (.string (txb (M ++ [10]))) W := fun W => sadd M [10] W (by have := hol.out; simp; omega)
      have a2 : ∀ W : World, (Op.stringOp .add (txb J) (txb (M ++ [10]))).run Tryd.prog W = .ok (.string (txb (lnj (p.steps.take (k + 1))))) W := fun W => by rw [hj2.out]; exact sadd J (M ++ [10]) W (by have := hol.out; have := hlk.out; simp; omega)
      obtain ⟨J2, hJ2⟩ := hid_ex3 (lnj (p.steps.take (k + 1)))
      rw [hJ2.out] at a2
      obtain ⟨b1, hb1⟩ := hid_ex3 (txb M)
      obtain ⟨b2, hb2⟩ := hid_ex3 (txb (M ++ [10]))
      obtain ⟨b3, hb3⟩ := hid_ex3 (txb J)
      obtain ⟨b4, hb4⟩ := hid_ex3 (txb J2)
      rw [hb1.out, hb2.out] at a1
      rw [hb2.out, hb3.out, hb4.out] at a2
      rw [hb1.out] at hlc
      rw [hb3.out]
      have hz4 : b4.size = J2.length := by rw [← hb4.out]; exact txb_size J2
      obtain ⟨Z, hZ⟩ := hid_ex3 J2.length
      have hZb : Z ≤ 65592 := by rw [← hZ.out, ← hJ2.out, hj2.out]; have := hol.out; have := hlk.out; simp; omega
      rw [hZ.out] at hz4
      go_upto_region 10 with fail
      rw [ewb.out]
      clear y0 y1 y2 y3 y4 y5 y6
      obtain ⟨y0, y1, y2, y3, y4, y5, y6⟩ := Zb.out
      go_wp2_with fail
      refine hlc.out.mono ?_
      rintro e w6 ⟨rfl, B6⟩
      have R6 : Hid (Below w.heap.size w w6) := Rb.out.trans (B6.mono Rb.out.size)
      have X6 : Hid (Bpg w6 bp p (.slice (some ⟨q, o, none⟩) n c)) := Xb.out.below B6
      clear y0 y1 y2 y3 y4 y5 y6 B6 hlc
      by_cases hbig : 65536 < Z
      · have hbig' : (65536 : Int) < (Z : Int) := by omega
        cases A
        all_goals (
          go_wp2
          go_ret
          exact ⟨rfl, R6.out⟩)
      · have hbig' : decide ((65536 : Int) < (Z : Int)) = false := decide_eq_false (by omega)
        have hJb : Hid ((lnj (p.steps.take (k + 1))).length ≤ 65536) := by rw [hJ2.out, hZ.out]; show _ ≤ _; omega
        have hJs : Hid (txb (lnj (p.steps.take (k + 1))) = b4) := by rw [hJ2.out, hb4.out]; exact (rfl : _ = _)
        have hn63 : n ≤ 2513169434843 := hb
        cases hAc : A with
        | false =>
          have hA3 : Hid ((p.steps.take (k + 1)).all Sp.fm = false) := by rw [hA2.out, hAc]; exact (rfl : _ = _)
          clear hA hA2 hAc hbig
          go_wp2
          go_roundw
          case rel => exact ⟨k + 1, by omega, by go_num, by rw [hJs.out], by rw [hA3.out], hJb, R6, X6⟩
          case measure => simp [intOf]; omega
        | true =>
          have hA3 : Hid ((p.steps.take (k + 1)).all Sp.fm = gb) := by rw [hA2.out, hAc]; exact (rfl : _ = _)
          clear hA hA2 hAc hbig
          go_wp2
          go_roundw
          case rel => exact ⟨k + 1, by omega, by go_num, by rw [hJs.out], by rw [hA3.out], hJb, R6, X6⟩
          case measure => simp [intOf]; omega
    · obtain rfl : k = n := by omega
      have e1 : p.steps.take k = p.steps := List.take_of_length_le (by rw [hn.out]; exact Nat.le_refl _)
      rw [e1] at hlk ⊢
      have hbk := hb
      clear e1 hlt R3 X3
      rw [hfb.out]
      have hpe : wr.cell? ⟨0, 0, none⟩ = some (ek al 8) := (LH.out.below Rk.out).le.pe
      have hrd : Hid (∀ W, Below w.heap.size w W → Calls Tryd.prog 14 #[.string SX] W fun e w' => RdE al sx W e w') := fun W hW => by rw [← hSX.out]; exact lread_c sx (by have := sH.out; omega) W al (LH.out.below hW)
      cases fb with
      | false =>
        have hT0 : T = ⟨#[]⟩ := hT.out.symm
        have hf0 : fv = ek al 8 := hfv.out.symm
        subst hT0 hf0
        have hq1 := fev_eq al false
        have hq2 := nnil_c al 8
        have hq3 := ne_same al 8
        have hgd := guard_c al 8
        unfold fev at hq1
        simp only [cond_false] at hq1
        obtain ⟨E, hE⟩ := hid_ex3 (ek al 8)
        rw [hE.out] at hpe hq1 hq2 hq3 hgd ⊢
        go_wp2_with fail
        clear hpe hq1 hq2 hq3 hgd
        refine (hrd.out wr Rk.out).mono ?_
        rintro e w8 ⟨B8, ⟨k9, b9, h9, rfl⟩ | ⟨p9, v9, h9, rfl, ho9⟩⟩
        · have R8 : Hid (Below w.heap.size w w8) := (Rk.out).trans (B8.mono (Rk.out).size)
          have hk9 : (1 : Int) ≤ (k9 : Int) := by have := rdt_line h9; omega
          obtain ⟨b1, hb1⟩ := hid_ex3 w8.heap.size
          obtain ⟨w9, ew9⟩ := hid_ex3 (w8.alloc (.cells #[.int .i64 0, .int .i64 0, .int .i64 0, .int .i64 0, .slice none 0 0] 24))
          have B9 : Hid (Below w8.heap.size w8 w9) := by rw [← ew9.out]; exact (Below.refl _ _).alloc (Nat.le_refl _) _
          have R9 : Hid (Below w.heap.size w w9) := R8.out.trans (B9.out.mono R8.out.size)
          have Y9 : Hid (Bpg w9 b1 ⟨0, 0, 0, 0, []⟩ (.slice none 0 0)) := by rw [← ew9.out, ← hb1.out]; exact Bpg.new w8 ⟨0, 0, 0, 0, []⟩ _
          have hsm : Hid (Calls Tryd.prog 11 #[.agg #[.int .i64 0, .int .i64 0, .int .i64 0, .int .i64 0, .slice none 0 0], .agg #[.int .i64 0, .int .i64 0, .int .i64 0, .int .i64 0, .slice none 0 0]] w9 fun e w' => e = .returned (.bool true) ∧ Below w9.heap.size w9 w') := by
            have h0 : Ss w9 none [] := fun i s hi => by simp at hi
            have h1 := dsame_c ⟨0, 0, 0, 0, []⟩ ⟨0, 0, 0, 0, []⟩ none none 0 0 0 0 w9 h0 h0 rfl rfl (by omega)
            rw [pgeq_iff.2 rfl] at h1
            exact h1
          obtain ⟨E5, hE5⟩ := hid_ex3 (ek al 5)
          obtain ⟨E8, hE8⟩ := hid_ex3 (ek al 8)
          unfold zp
          clear B8 h9
          cases b9 with
          | false =>
            simp only [cond_false]
            have hn5 := nnil_c al 5
            have hg5 := guard_c al 5
            have hs5 := eq_sameB al 5
            rw [hE5.out] at hn5 hg5 hs5 ⊢
            go_upto_region 31 with fail
            rw [ew9.out, hb1.out]
            obtain ⟨y0, y1, y2, y3, y4⟩ := Y9.out
            go_wp2_with fail
            refine hsm.out.mono ?_
            rintro e w10 ⟨rfl, B10⟩
            have R10 : Hid (Below w.heap.size w w10) := R9.out.trans (B10.mono R9.out.size)
            have hte := (LH.out.below R10.out).te
            rw [hE5.out] at hte
            clear y0 y1 y2 y3 y4 B10 hsm
            go_wp2
            go_ret
            exact ⟨rfl, R10.out⟩
          | true =>
            simp only [cond_true]
            have hn5 := nnil_c al 8
            have hg5 := guard_c al 8
            have hs5 := eq_sameB al 8
            rw [hE8.out] at hn5 hg5 hs5 ⊢
            go_upto_region 31 with fail
            rw [ew9.out, hb1.out]
            obtain ⟨y0, y1, y2, y3, y4⟩ := Y9.out
            go_wp2_with fail
            refine hsm.out.mono ?_
            rintro e w10 ⟨rfl, B10⟩
            have R10 : Hid (Below w.heap.size w w10) := R9.out.trans (B10.mono R9.out.size)
            have hte := (LH.out.below R10.out).te
            have hpe2 : w10.cell? ⟨0, 0, none⟩ = some (ek al 8) := (LH.out.below R10.out).le.pe
            have hd9 := eq_diff dH.out rowH.out R10.out
            rw [hE5.out] at hte hd9
            rw [hE8.out] at hpe2 hd9
            clear y0 y1 y2 y3 y4 B10 hsm
            go_wp2
            go_ret
            exact ⟨rfl, R10.out⟩
        · have R8 : Hid (Below w.heap.size w w8) := (Rk.out).trans (B8.mono (Rk.out).size)
          obtain ⟨e1, e2, e3⟩ := rdt_inv h9
          obtain ⟨a', c', rfl, S8⟩ := ho9.ss
          obtain ⟨m, hm⟩ := hid_ex3 p9.steps.length
          have hmb : Hid (m * 56 ≤ 140737488351232) := by
            have h1 := lins_cnt p9.steps e3
            have h2 : (lins p9.steps).count 10 ≤ (lins p9.steps).length := List.count_le_length
            have h3 := sH.out
            rw [e1] at h3
            unfold ltx at h3
            rw [List.length_append] at h3
            rw [← hm.out]; show _ ≤ _; omega
          rw [hm.out]
          obtain ⟨b1, hb1⟩ := hid_ex3 w8.heap.size
          obtain ⟨w9, ew9⟩ := hid_ex3 (w8.alloc (.cells #[.int .i64 p9.len, .int .i64 p9.cells, .int .i64 p9.inn, .int .i64 p9.out, .slice a' m c'] 24))
          have B9 : Hid (Below w8.heap.size w8 w9) := by rw [← ew9.out]; exact (Below.refl _ _).alloc (Nat.le_refl _) _
          have R9 : Hid (Below w.heap.size w w9) := R8.out.trans (B9.out.mono R8.out.size)
          have Y9 : Hid (Bpg w9 b1 p9 (.slice a' m c')) := by rw [← ew9.out, ← hb1.out]; exact Bpg.new w8 p9 _
          have htx9 : Hid (Calls Tryd.prog 8 #[.agg #[.int .i64 p9.len, .int .i64 p9.cells, .int .i64 p9.inn, .int .i64 p9.out, .slice a' m c']] w9 fun e w' => e = .returned (.tuple #[.string SX, .nilIface]) ∧ Below w9.heap.size w9 w') := by
            have h1 := ltext_c p9 a' c' w9 al (S8.below B9.out) (by rw [hm.out]; exact hmb.out) e2 (LH.out.le.below R9.out)
            rw [hm.out, txv_v, List.all_eq_true.2 e3] at h1
            have h2 : txb (oty true (ltx p9)) = SX := by rw [← hSX.out, e1]; rfl
            rw [h2] at h1
            exact h1
          have hnn := neq_nil16
          have hnl := nil16
          have hgn := guard_nilB
          unfold pv
          clear B8 h9 e1 e2 e3 S8 ho9
          go_upto_region 31 with fail
          rw [ew9.out, hb1.out]
          obtain ⟨y0, y1, y2, y3, y4⟩ := Y9.out
          go_wp2_with fail
          refine htx9.out.mono ?_
          rintro e w10 ⟨rfl, B10⟩
          have R10 : Hid (Below w.heap.size w w10) := R9.out.trans (B10.mono R9.out.size)
          clear y0 y1 y2 y3 y4 B10 htx9
          go_wp2
          go_ret
          exact ⟨rfl, R10.out⟩
      | true =>
        have hfs : ∀ s ∈ p.steps, Sp.fm s = true := List.all_eq_true.1 hfb.out
        have hf0 : fv = .nilIface := hfv.out.symm
        subst hf0
        have hlj : lnj p.steps = lins p.steps := lnj_all p.steps hfs
        rw [hlj] at hlk ⊢
        have hTl : Hid (txb (ltx p) = T) := hT.out
        obtain ⟨G, hG⟩ := hid_ex3 (lins p.steps)
        rw [hG.out] at hlk ⊢
        obtain ⟨H, hH⟩ := hid_ex3 (hdK p 4 ++ [10])
        have hlt : Hid (ltx p = H ++ G) := by unfold ltx; rw [hG.out, hH.out]; exact (rfl : _ = _)
        have hHl : H.length ≤ 101 := by
          have h1 := hdK_len inH.out 4
          rw [← hH.out, List.length_append]; simp; omega
        have hGl : G.length ≤ 65536 := hlk.out
        obtain ⟨hl, hhl⟩ := hid_ex3 H.length
        obtain ⟨gl, hgl⟩ := hid_ex3 G.length
        rw [hhl.out] at hHl
        rw [hgl.out] at hGl
        obtain ⟨GX, hGX⟩ := hid_ex3 (txb G)
        have hTs : T.size = hl + gl := by rw [← hTl.out, txb_size, hlt.out, List.length_append, hhl.out, hgl.out]
        have hGs : GX.size = gl := by rw [← hGX.out, txb_size, hgl.out]
        have hcutT : ∀ W : World, (Instr.slice 9 (.string T) (some (.int .i64 (hl : Int))) none none).run Tryd.prog W = .ok (.string GX) W := fun W => by
          rw [run_slice_string_l W 9 T Tryd.underlying9 .i64 (hl : Int) (by omega) (by rw [hTs]; omega), show ((hl : Int)).toNat = hl by omega, ← hTl.out, txb_cut, hlt.out, ← hGX.out]
          congr 3
          have hhl' := hhl.out
          rw [List.drop_left' hhl.out, List.take_of_length_le (by rw [txb_size, List.length_append]; omega)]
        have hrA : Hid (∀ W, Below w.heap.size w W → Calls Tryd.prog 14 #[.string T] W fun e w' => ∃ (a' : Option Addr) (c' : Nat), e = .returned (.tuple #[.agg #[.int .i64 p.len, .int .i64 p.cells, .int .i64 p.inn, .int .i64 p.out, .slice a' k c'], .int .i64 0, .nilIface]) ∧ OwS w' W.heap.size (.slice a' k c') p.steps ∧ Below W.heap.size W w') := fun W hW => by
          have h0 := lread_c (ltx p) (by rw [hlt.out, List.length_append, hhl.out, hgl.out]; omega) W al (LH.out.below hW)
          rw [hTl.out] at h0
          refine h0.mono ?_
          have hrt := rdt_ltx inH.out hfs
          rintro e w' ⟨hb9, ⟨k9, b9, h9, _⟩ | ⟨p9, v9, h9, h8, h7⟩⟩
          · rw [hrt] at h9; cases h9
          · rw [hrt] at h9
            cases h9
            obtain ⟨a', c', e1, e2⟩ := h7.ss
            rw [hn.out] at e1
            subst e1
            exact ⟨a', c', h8, h7, hb9⟩
        have hnn := neq_nil16
        have hnl := nil16
        have hgn := guard_nilB
        rw [hGX.out]
        clear hlk hlj hfs hpe
        go_wp2_with fail
        refine (hrA.out wr Rk.out).mono ?_
        rintro e w4 ⟨a1, k1, rfl, O4, B4⟩
        obtain ⟨g0, hg0⟩ := hid_ex3 wr.heap.size
        rw [hg0.out] at O4
        obtain ⟨b1, hb1⟩ := hid_ex3 w4.heap.size
        obtain ⟨w5, ew5⟩ := hid_ex3 (w4.alloc (.cells #[.int .i64 p.len, .int .i64 p.cells, .int .i64 p.inn, .int .i64 p.out, .slice a1 k k1] 24))
        have B5 : Hid (Below w4.heap.size w4 w5) := by rw [← ew5.out]; exact (Below.refl _ _).alloc (Nat.le_refl _) _
        have R4 : Hid (Below w.heap.size w w4) := Rk.out.trans (B4.mono Rk.out.size)
        have R5 : Hid (Below w.heap.size w w5) := R4.out.trans (B5.out.mono R4.out.size)
        have Y5 : Hid (Bpf w5 b1 p (.slice a1 k k1)) := by rw [← ew5.out, ← hb1.out]; exact Bpf.new w4 p _
        have O5 : Hid (OwS w5 g0 (.slice a1 k k1) p.steps) := O4.belB B5.out
        have X5 : Hid (Bpg w5 bp p (.slice ao k c)) := (Xk.out.below B4).below B5.out
        have row1 : Hid (∀ b, (Value.slice a1 k k1).ownBlock = some b → g0 ≤ b ∧ b < b1) := fun b hb => by rw [← hb1.out]; exact World.ownsRow.lt O4 b hb
        have z5 : Hid (w5.heap.size = b1 + 1) := by rw [← ew5.out, ← hb1.out]; simp [Hid]
        clear O4 B4
        go_upto_region 20 with fail
        rw [ew5.out, hb1.out]
        go_wp2_with fail
        refine (hrA.out w5 R5.out).mono ?_
        rintro e w6 ⟨a2, k2, rfl, O6, B6⟩
        obtain ⟨b2, hb2⟩ := hid_ex3 w6.heap.size
        obtain ⟨w7, ew7⟩ := hid_ex3 (w6.alloc (.cells #[.int .i64 p.len, .int .i64 p.cells, .int .i64 p.inn, .int .i64 p.out, .slice a2 k k2] 24))
        have B7 : Hid (Below w6.heap.size w6 w7) := by rw [← ew7.out]; exact (Below.refl _ _).alloc (Nat.le_refl _) _
        have B57 : Hid (Below w5.heap.size w5 w7) := B6.trans (B7.out.mono B6.size)
        have R7 : Hid (Below w.heap.size w w7) := R5.out.trans (B57.out.mono R5.out.size)
        have Y7 : Hid (Bpf w7 b1 p (.slice a1 k k1)) := Y5.out.fr (Fr.bel B57.out) id
        have O7 : Hid (OwS w7 g0 (.slice a1 k k1) p.steps) := O5.out.belB B57.out
        have Z7 : Hid (Bpf w7 b2 p (.slice a2 k k2)) := by rw [← ew7.out, ← hb2.out]; exact Bpf.new w6 p _
        have Q7 : Hid (OwS w7 w5.heap.size (.slice a2 k k2) p.steps) := O6.belB B7.out
        have X7 : Hid (Bpg w7 bp p (.slice ao k c)) := X5.out.below B57.out
        have hb12 : Hid (b1 < b2) := by have h1 := B6.size; have h2 := z5.out; have h3 := hb2.out; show _ < _; omega
        clear B6 O6
        have hsm : Hid (Calls Tryd.prog 11 #[.agg #[.int .i64 p.len, .int .i64 p.cells, .int .i64 p.inn, .int .i64 p.out, .slice a1 k k1], .agg #[.int .i64 p.len, .int .i64 p.cells, .int .i64 p.inn, .int .i64 p.out, .slice ao k c]] w7 fun e w' => e = .returned (.bool true) ∧ Below w7.heap.size w7 w') := by
          have h1 := dsame_c p p a1 ao k k k1 c w7 O7.out.slB (aH.out.below R7.out) hn.out.symm hn.out.symm (by omega)
          rw [pgeq_iff.2 rfl] at h1
          exact h1
        go_upto_region 21 with fail
        rw [ew7.out, hb2.out]
        obtain ⟨x0, x1, x2, x3, x4⟩ := X7.out
        obtain ⟨y0, y1, y2, y3, y4⟩ := Y7.out.bx
        go_wp2_with fail
        refine hsm.out.mono ?_
        rintro e w8 ⟨rfl, B8⟩
        have R8 : Hid (Below w.heap.size w w8) := R7.out.trans (B8.mono R7.out.size)
        have Y8 : Hid (Bpf w8 b1 p (.slice a1 k k1)) := Y7.out.fr (Fr.bel B8) id
        have O8 : Hid (OwS w8 g0 (.slice a1 k k1) p.steps) := O7.out.belB B8
        have Z8 : Hid (Bpf w8 b2 p (.slice a2 k k2)) := Z7.out.fr (Fr.bel B8) id
        have Q8 : Hid (OwS w8 w5.heap.size (.slice a2 k k2) p.steps) := Q7.out.belB B8
        have X8 : Hid (Bpg w8 bp p (.slice ao k c)) := X7.out.below B8
        clear x0 x1 x2 x3 x4 y0 y1 y2 y3 y4 B8 hsm
        have hbl : Hid (bp < g0) := by rw [← hg0.out]; exact cell_lt (a := ⟨bp, 0, none⟩) Xk.out.c0
        have hwg : Hid (w.heap.size ≤ g0) := by rw [← hg0.out]; exact Rk.out.size
        have hlg : decide (((hl : Int) + (gl : Int)) < (gl : Int)) = false := decide_eq_false (by omega)
        have hsw : IntKind.i64.wrap ((hl : Int) + (gl : Int) - (gl : Int)) = (hl : Int) := by rw [IntKind.wrap_i64]; omega
        have y4 := Y8.out.bx.c4
        go_wp2_with fail
        clear y4
        go_loopw [125] (fun i wx => ∃ (j : Nat) (ss : List Sp.St), j ≤ k ∧ i = .int .i64 j ∧ Hid (OwS wx g0 (.slice a1 k k1) ss) ∧ Hid (ss.length = k) ∧ Hid (Fr (fun b => (Value.slice a1 k k1).ownBlock = some b) w8 wx)) (fun i _ => k - (intOf i).toNat)
        case atStart => exact ⟨0, p.steps, Nat.zero_le _, rfl, O8, hn.out, Fr.refl _ _⟩
        case round =>
          obtain ⟨j, ss, hj, rfl, hOs, hsl, hfr⟩ := hrel
          by_cases hlt2 : j < k
          · have hlt3 : (j : Int) < (k : Int) := by omega
            have Yj : Hid (Bpf wr b1 p (.slice a1 k k1)) := Y8.out.fr hfr.out fun e => by have := row1.out _ e; omega
            obtain ⟨Q, rfl⟩ : ∃ Q, a1 = some ⟨Q, 0, none⟩ := by
              have hh : wr.ownsRow g0 26 7 (.slice a1 k k1) ss.length (scs ss) := hOs.out
              rcases hh.2 with ⟨_, h1⟩ | ⟨g, cap, cur, h1, _⟩
              · have := hsl.out; omega
              · injection h1 with h1 _ _; exact ⟨g, h1⟩
            have hNk : Hid (k ≤ k1) := by
              have hh : wr.ownsRow g0 26 7 (.slice (some ⟨Q, 0, none⟩) k k1) ss.length (scs ss) := hOs.out
              rcases hh.2 with ⟨h1, _⟩ | ⟨g', cap', cur, h1, h2, h3, h4, h5⟩
              · cases h1
              · injection h1 with h6 h7 h8; have := hsl.out; show _ ≤ _; omega
            obtain ⟨so, hso⟩ : ∃ s, ss[j]? = some s := ⟨_, List.getElem?_eq_getElem (by rw [hsl.out]; exact hlt2)⟩
            obtain ⟨q', o', hq', hat⟩ := hOs.out.slB j so hso
            injection hq' with hq'
            injection hq' with hq1 hq2 _
            subst hq1; subst hq2
            rw [Nat.zero_add] at hat
            obtain ⟨c0, c1, c2, c3, c4', c5, c6⟩ := hat
            have hh2 : wr.ownsRow g0 26 7 (.slice (some ⟨Q, 0, none⟩) k k1) k (scs ss) := by have h := hOs.out; unfold OwS at h; rw [hsl.out] at h; exact h
            have fz := fun i => World.ownsRow.frozenAt hh2 i
            clear hh2
            have hpu : Hid (OwS (((((((wr.setCell ⟨Q, j * 7 + 0, none⟩ (.int .i64 99)).setCell ⟨Q, j * 7 + 1, none⟩ (.int .i64 0)).setCell ⟨Q, j * 7 + 2, none⟩ (.int .i64 0)).setCell ⟨Q, j * 7 + 3, none⟩ (.int .i64 0)).setCell ⟨Q, j * 7 + 4, none⟩ (.int .i64 0)).setCell ⟨Q, j * 7 + 5, none⟩ (.int .i64 0)).setCell ⟨Q, j * 7 + 6, none⟩ (.int .i64 0)) g0 (.slice (some ⟨Q, 0, none⟩) k k1) (ss.set j s99B)) := hOs.out.putB hsl.out.symm hlt2 s99B
            have hsl2 : Hid ((ss.set j s99B).length = k) := by show _ = _; rw [List.length_set]; exact hsl.out
            have x4 := Yj.out.bx.c4
            have hNk2 : k ≤ k1 := hNk.out
            clear hso
            go_wp2_with fail
            go_roundw
            case rel => exact ⟨j + 1, ss.set j s99B, by omega, by go_num, hpu, hsl2, ((((((hfr.out.setCell (p := ⟨Q, j * 7 + 0, none⟩) rfl _).setCell (p := ⟨Q, j * 7 + 1, none⟩) rfl _).setCell (p := ⟨Q, j * 7 + 2, none⟩) rfl _).setCell (p := ⟨Q, j * 7 + 3, none⟩) rfl _).setCell (p := ⟨Q, j * 7 + 4, none⟩) rfl _).setCell (p := ⟨Q, j * 7 + 5, none⟩) rfl _).setCell (p := ⟨Q, j * 7 + 6, none⟩) rfl _⟩
            case measure => simp [intOf]; omega
          · have hlt3 : decide ((j : Int) < (k : Int)) = false := decide_eq_false (by omega)
            have Xj : Hid (Bpg wr bp p (.slice ao k c)) := X8.out.fr hfr.out fun e => by have := row1.out _ e; have := hbl.out; omega
            have Zj : Hid (Bpf wr b2 p (.slice a2 k k2)) := Z8.out.fr hfr.out fun e => by have := row1.out _ e; have := hb12.out; omega
            have Qj : Hid (OwS wr w5.heap.size (.slice a2 k k2) p.steps) := Q8.out.fr hfr.out fun b hb e => by
              have h1 := row1.out _ e
              have h2 := (World.ownsRow.lt Q8.out b hb).1
              have h3 := z5.out
              omega
            have Rj : Hid (Below w.heap.size w wr) := hfr.out.below R8.out R8.out.size fun b hb e => by have := row1.out _ e; have := hwg.out; omega
            have hsm : Hid (Calls Tryd.prog 11 #[.agg #[.int .i64 p.len, .int .i64 p.cells, .int .i64 p.inn, .int .i64 p.out, .slice a2 k k2], .agg #[.int .i64 p.len, .int .i64 p.cells, .int .i64 p.inn, .int .i64 p.out, .slice ao k c]] wr fun e w' => e = .returned (.bool true) ∧ Below wr.heap.size wr w') := by
              have h1 := dsame_c p p a2 ao k k k2 c wr Qj.out.slB (aH.out.below Rj.out) hn.out.symm hn.out.symm (by omega)
              rw [pgeq_iff.2 rfl] at h1
              exact h1
            obtain ⟨x0, x1, x2, x3, x4⟩ := Xj.out
            obtain ⟨y0, y1, y2, y3, y4⟩ := Zj.out.bx
            go_wp2_with fail
            refine hsm.out.mono ?_
            rintro e wz ⟨rfl, Bz⟩
            have Rz : Hid (Below w.heap.size w wz) := Rj.out.trans (Bz.mono Rj.out.size)
            clear x0 x1 x2 x3 x4 y0 y1 y2 y3 y4 Bz hsm
            go_wp2_with fail
            refine (hrd.out wz Rz.out).mono ?_
            rintro e w8 ⟨B8, ⟨k9, b9, h9, rfl⟩ | ⟨p9, v9, h9, rfl, ho9⟩⟩
            · have R8 : Hid (Below w.heap.size w w8) := (Rz.out).trans (B8.mono (Rz.out).size)
              have hk9 : (1 : Int) ≤ (k9 : Int) := by have := rdt_line h9; omega
              obtain ⟨b1, hb1⟩ := hid_ex3 w8.heap.size
              obtain ⟨w9, ew9⟩ := hid_ex3 (w8.alloc (.cells #[.int .i64 0, .int .i64 0, .int .i64 0, .int .i64 0, .slice none 0 0] 24))
              have B9 : Hid (Below w8.heap.size w8 w9) := by rw [← ew9.out]; exact (Below.refl _ _).alloc (Nat.le_refl _) _
              have R9 : Hid (Below w.heap.size w w9) := R8.out.trans (B9.out.mono R8.out.size)
              have Y9 : Hid (Bpg w9 b1 ⟨0, 0, 0, 0, []⟩ (.slice none 0 0)) := by rw [← ew9.out, ← hb1.out]; exact Bpg.new w8 ⟨0, 0, 0, 0, []⟩ _
              have hsm : Hid (Calls Tryd.prog 11 #[.agg #[.int .i64 0, .int .i64 0, .int .i64 0, .int .i64 0, .slice none 0 0], .agg #[.int .i64 0, .int .i64 0, .int .i64 0, .int .i64 0, .slice none 0 0]] w9 fun e w' => e = .returned (.bool true) ∧ Below w9.heap.size w9 w') := by
                have h0 : Ss w9 none [] := fun i s hi => by simp at hi
                have h1 := dsame_c ⟨0, 0, 0, 0, []⟩ ⟨0, 0, 0, 0, []⟩ none none 0 0 0 0 w9 h0 h0 rfl rfl (by omega)
                rw [pgeq_iff.2 rfl] at h1
                exact h1
              obtain ⟨E5, hE5⟩ := hid_ex3 (ek al 5)
              obtain ⟨E8, hE8⟩ := hid_ex3 (ek al 8)
              unfold zp
              clear B8 h9
              cases b9 with
              | false =>
                simp only [cond_false]
                have hn5 := nnil_c al 5
                have hg5 := guard_c al 5
                have hs5 := eq_sameB al 5
                rw [hE5.out] at hn5 hg5 hs5 ⊢
                go_upto_region 31 with fail
                rw [ew9.out, hb1.out]
                obtain ⟨y0, y1, y2, y3, y4⟩ := Y9.out
                go_wp2_with fail
                refine hsm.out.mono ?_
                rintro e w10 ⟨rfl, B10⟩
                have R10 : Hid (Below w.heap.size w w10) := R9.out.trans (B10.mono R9.out.size)
                have hte := (LH.out.below R10.out).te
                rw [hE5.out] at hte
                clear y0 y1 y2 y3 y4 B10 hsm
                go_wp2
                go_ret
                exact ⟨rfl, R10.out⟩
              | true =>
                simp only [cond_true]
                have hn5 := nnil_c al 8
                have hg5 := guard_c al 8
                have hs5 := eq_sameB al 8
                rw [hE8.out] at hn5 hg5 hs5 ⊢
                go_upto_region 31 with fail
                rw [ew9.out, hb1.out]
                obtain ⟨y0, y1, y2, y3, y4⟩ := Y9.out
                go_wp2_with fail
                refine hsm.out.mono ?_
                rintro e w10 ⟨rfl, B10⟩
                have R10 : Hid (Below w.heap.size w w10) := R9.out.trans (B10.mono R9.out.size)
                have hte := (LH.out.below R10.out).te
                have hpe2 : w10.cell? ⟨0, 0, none⟩ = some (ek al 8) := (LH.out.below R10.out).le.pe
                have hd9 := eq_diff dH.out rowH.out R10.out
                rw [hE5.out] at hte hd9
                rw [hE8.out] at hpe2 hd9
                clear y0 y1 y2 y3 y4 B10 hsm
                go_wp2
                go_ret
                exact ⟨rfl, R10.out⟩
            · have R8 : Hid (Below w.heap.size w w8) := (Rz.out).trans (B8.mono (Rz.out).size)
              obtain ⟨e1, e2, e3⟩ := rdt_inv h9
              obtain ⟨a', c', rfl, S8⟩ := ho9.ss
              obtain ⟨m, hm⟩ := hid_ex3 p9.steps.length
              have hmb : Hid (m * 56 ≤ 140737488351232) := by
                have h1 := lins_cnt p9.steps e3
                have h2 : (lins p9.steps).count 10 ≤ (lins p9.steps).length := List.count_le_length
                have h3 := sH.out
                rw [e1] at h3
                unfold ltx at h3
                rw [List.length_append] at h3
                rw [← hm.out]; show _ ≤ _; omega
              rw [hm.out]
              obtain ⟨b1, hb1⟩ := hid_ex3 w8.heap.size
              obtain ⟨w9, ew9⟩ := hid_ex3 (w8.alloc (.cells #[.int .i64 p9.len, .int .i64 p9.cells, .int .i64 p9.inn, .int .i64 p9.out, .slice a' m c'] 24))
              have B9 : Hid (Below w8.heap.size w8 w9) := by rw [← ew9.out]; exact (Below.refl _ _).alloc (Nat.le_refl _) _
              have R9 : Hid (Below w.heap.size w w9) := R8.out.trans (B9.out.mono R8.out.size)
              have Y9 : Hid (Bpg w9 b1 p9 (.slice a' m c')) := by rw [← ew9.out, ← hb1.out]; exact Bpg.new w8 p9 _
              have htx9 : Hid (Calls Tryd.prog 8 #[.agg #[.int .i64 p9.len, .int .i64 p9.cells, .int .i64 p9.inn, .int .i64 p9.out, .slice a' m c']] w9 fun e w' => e = .returned (.tuple #[.string SX, .nilIface]) ∧ Below w9.heap.size w9 w') := by
                have h1 := ltext_c p9 a' c' w9 al (S8.below B9.out) (by rw [hm.out]; exact hmb.out) e2 (LH.out.le.below R9.out)
                rw [hm.out, txv_v, List.all_eq_true.2 e3] at h1
                have h2 : txb (oty true (ltx p9)) = SX := by rw [← hSX.out, e1]; rfl
                rw [h2] at h1
                exact h1
              have hnn := neq_nil16
              have hnl := nil16
              have hgn := guard_nilB
              unfold pv
              clear B8 h9 e1 e2 e3 S8 ho9
              go_upto_region 31 with fail
              rw [ew9.out, hb1.out]
              obtain ⟨y0, y1, y2, y3, y4⟩ := Y9.out
              go_wp2_with fail
              refine htx9.out.mono ?_
              rintro e w10 ⟨rfl, B10⟩
              have R10 : Hid (Below w.heap.size w w10) := R9.out.trans (B10.mono R9.out.size)
              clear y0 y1 y2 y3 y4 B10 htx9
              go_wp2
              go_ret
              exact ⟨rfl, R10.out⟩
end Go.Proofs.YtebknahackkhnaaDoor
