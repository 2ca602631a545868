/-
  The statement ListingTexts: the walk.
-/
import Derived.Test.YtebknahackkhnaaDoorSlv
import Derived.Test.YtebknahackkhnaaDoorLrr
import Derived.Test.YtebknahackkhnaaDoorSd4
namespace Go.Proofs.YtebknahackkhnaaDoor
open Flo Go.RowKit
theorem num_fev16 (al : List Addr) (b : Bool) (w : World) (he : Errs w al) : Calls Tryd.prog 10 #[fev al b] w fun e w' => e = .returned (.int .i64 (fnn b)) ∧ Below w.heap.size w w' := by
  cases b
  · exact num_err al 8 (by decide) w he
  · refine (num_nil w).mono ?_
    rintro e w' ⟨rfl, rfl⟩
    exact ⟨rfl, Below.refl _ _⟩
def s770 : Sp.St := ⟨77, 0, 0, 0, 0, 0, 0⟩
/-- a text, or none -/
def otx (b : Bool) (l : List UInt8) : List UInt8 := bif b then l else []
theorem txv_u (al : List Addr) (p : Sp.Pg) : txv al p = .tuple #[.string (txb (otx (p.steps.all Sp.fm) (ltx p))), fev al (p.steps.all Sp.fm)] := by
  unfold txv otx fev; cases p.steps.all Sp.fm <;> rfl
theorem rtv_u (p : Sp.Pg) : rtv p = .tuple #[.string (txb (otx (p.steps.all Sp.fm) (ltx p))), .int .i64 (fnn (p.steps.all Sp.fm))] := by
  unfold rtv otx fnn; cases p.steps.all Sp.fm <;> rfl
theorem lnv_u (al : List Addr) (s : Sp.St) : lnv al s = .tuple #[.string (txb (otx (Sp.fm s) (lin s))), fev al (Sp.fm s)] := by
  unfold lnv otx fev; cases Sp.fm s <;> rfl
theorem rlv_u (s : Sp.St) : rlv s = .tuple #[.string (txb (otx (Sp.fm s) (lin s))), .int .i64 (fnn (Sp.fm s))] := by
  unfold rlv otx fnn; cases Sp.fm s <;> rfl
theorem OwS.bel16 {w w' : World} {B : Nat} {v : Value} {ss : List Sp.St} (h : OwS w B v ss) (hb : Below w.heap.size w w') : OwS w' B v ss := h.fr (Fr.bel hb) fun _ _ h => h
theorem OwS.sl16 {w : World} {B : Nat} {a : Option Addr} {m k : Nat} {ss : List Sp.St} (h : OwS w B (.slice a m k) ss) : Ss w a ss := by
  obtain ⟨ao, cap, h1, h2⟩ := h.ss
  injection h1 with e1 _ _
  rw [e1]; exact h2
set_option maxHeartbeats 16000000 in
set_option maxRecDepth 100000 in
theorem listingTexts.walk (p : Sp.Pg) (ao : Option Addr) (c : Nat) (s : Sp.St) (al : List Addr) (w : World) (ha : Ss w ao p.steps) (hc : ao = none → c = 0) (hb : p.steps.length * 56 ≤ 140737488351232) (hin : Pin p) (hL : Le w al) (hE : Errs w al) :
    Calls Tryd.prog 3 #[pv p (.slice ao p.steps.length c), sv s] w fun e w' => e = .returned (.bool true) ∧ Below w.heap.size w w' := by
  obtain ⟨n, hn⟩ := hid_ex3 p.steps.length
  rw [hn.out] at hb ⊢
  obtain ⟨bp, hbp⟩ := hid_ex3 w.heap.size
  obtain ⟨bs, hbs⟩ := hid_ex3 (w.heap.size + 1)
  obtain ⟨w1, ew1⟩ := hid_ex3 ((w.alloc (.cells #[.int .i64 p.len, .int .i64 p.cells, .int .i64 p.inn, .int .i64 p.out, .slice ao n c] 24)).alloc (.cells #[.int .i64 s.op, .int .i64 s.dst, .int .i64 s.src, .int .i64 s.jump, .int .i64 s.count, .int .i64 s.n, .int .i64 s.k] 26))
  have B1 : Hid (Below w.heap.size w w1) := by rw [← ew1.out]; exact ((Below.refl _ _).alloc (Nat.le_refl _) _).alloc (by simp) _
  have X1 : Hid (Bpg w1 bp p (.slice ao n c)) := by rw [← ew1.out, ← hbp.out]; exact (Bpg.new w p (.slice ao n c)).below ((Below.refl _ _).alloc (Nat.le_refl _) _)
  have Y1 : Hid (Bst w1 bs s.op s.dst s.src s.jump s.count s.n s.k) := by
    have h9 := Bst.new (w.alloc (.cells #[.int .i64 p.len, .int .i64 p.cells, .int .i64 p.inn, .int .i64 p.out, .slice ao n c] 24)) s.op s.dst s.src s.jump s.count s.n s.k
    rw [ew1.out] at h9
    show Bst _ _ _ _ _ _ _ _ _
    simpa [hbs.out] using h9
  have LH : Hid (Le w al) := hL
  have EH : Hid (Errs w al) := hE
  have aH : Hid (Ss w ao p.steps) := ha
  have cH : Hid (ao = none → c = 0) := hc
  have bH : Hid (n * 56 ≤ 140737488351232) := hb
  have inH : Hid (Pin p) := hin
  obtain ⟨fb, hfb⟩ := hid_ex3 (p.steps.all Sp.fm)
  obtain ⟨T, hT⟩ := hid_ex3 (txb (otx fb (ltx p)))
  obtain ⟨fv, hfv⟩ := hid_ex3 (fev al fb)
  obtain ⟨fx, hfx⟩ := hid_ex3 (fnn fb)
  obtain ⟨gb, hgb⟩ := hid_ex3 (Sp.fm s)
  obtain ⟨T2, hT2⟩ := hid_ex3 (txb (otx gb (lin s)))
  obtain ⟨gv, hgv⟩ := hid_ex3 (fev al gb)
  obtain ⟨gx, hgx⟩ := hid_ex3 (fnn gb)
  have hnum : Hid (∀ W, Below w.heap.size w W → Calls Tryd.prog 10 #[fv] W fun e w' => e = .returned (.int .i64 fx) ∧ Below W.heap.size W w') := fun W hW => by rw [← hfv.out, ← hfx.out]; exact num_fev16 al fb W (EH.out.below hW)
  have hnum2 : Hid (∀ W, Below w.heap.size w W → Calls Tryd.prog 10 #[gv] W fun e w' => e = .returned (.int .i64 gx) ∧ Below W.heap.size W w') := fun W hW => by rw [← hgv.out, ← hgx.out]; exact num_fev16 al gb W (EH.out.below hW)
  have htx : Hid (∀ (W : World) (a : Option Addr) (k : Nat), Below w.heap.size w W → Ss W a p.steps → Calls Tryd.prog 8 #[.agg #[.int .i64 p.len, .int .i64 p.cells, .int .i64 p.inn, .int .i64 p.out, .slice a n k]] W fun e w' => e = .returned (.tuple #[.string T, fv]) ∧ Below W.heap.size W w') := fun W a k hW hS => by
    have h1 := ltext_c p a k W al hS (by rw [hn.out]; exact bH.out) inH.out (LH.out.below hW)
    rw [txv_u, hfb.out, hT.out, hfv.out, hn.out] at h1
    exact h1
  have hrt : Hid (∀ (W : World), Below w.heap.size w W → Calls Tryd.prog 9 #[.agg #[.int .i64 p.len, .int .i64 p.cells, .int .i64 p.inn, .int .i64 p.out, .slice ao n c]] W fun e w' => e = .returned (.tuple #[.string T, .int .i64 fx]) ∧ Below W.heap.size W w') := fun W hW => by
    have h1 := rText_c p ao c W (aH.out.below hW) (by rw [hn.out]; exact bH.out) inH.out
    rw [rtv_u, hfb.out, hT.out, hfx.out, hn.out] at h1
    exact h1
  have hlt : Hid (∀ (W : World), Below w.heap.size w W → Calls Tryd.prog 12 #[.agg #[.int .i64 s.op, .int .i64 s.dst, .int .i64 s.src, .int .i64 s.jump, .int .i64 s.count, .int .i64 s.n, .int .i64 s.k]] W fun e w' => e = .returned (.tuple #[.string T2, gv]) ∧ Below W.heap.size W w') := fun W hW => by
    have h1 := lline_c s W al (LH.out.below hW)
    rw [lnv_u, hgb.out, hT2.out, hgv.out] at h1
    exact h1
  have hrl : Hid (∀ (W : World), Calls Tryd.prog 13 #[.agg #[.int .i64 s.op, .int .i64 s.dst, .int .i64 s.src, .int .i64 s.jump, .int .i64 s.count, .int .i64 s.n, .int .i64 s.k]] W fun e w' => e = .returned (.tuple #[.string T2, .int .i64 gx]) ∧ Below W.heap.size W w') := fun W => by
    have h1 := rLine_c s W
    rw [rlv_u, hgb.out, hT2.out, hgx.out] at h1
    exact h1
  have hlv : Hid (Calls Tryd.prog 7 #[] w1 fun e w' => e = .returned (.bool true) ∧ Below w1.heap.size w1 w') := llives_c al w1 (hL.below B1.out)
  clear ha hc hb hin hL hE
  unfold pv sv sva
  go_enter Tryd.func3, Tryd.ntmps3
  go_upto_region 1 with fail
  rw [ew1.out, hbs.out, hbp.out]
  go_wp2_with fail
  refine hlv.out.mono ?_
  rintro e w2 ⟨rfl, B2⟩
  have R2 : Hid (Below w.heap.size w w2) := B1.out.trans (B2.mono B1.out.size)
  have X2 : Hid (Bpg w2 bp p (.slice ao n c)) := X1.out.below B2
  have Y2 : Hid (Bst w2 bs s.op s.dst s.src s.jump s.count s.n s.k) := Y1.out.below B2
  obtain ⟨bm, hbm⟩ := hid_ex3 w2.heap.size
  obtain ⟨wa, ewa⟩ := hid_ex3 (w2.alloc (.cells #[.int .i64 p.len, .int .i64 p.cells, .int .i64 p.inn, .int .i64 p.out, .slice ao n c] 24))
  have La : Hid (Below w2.heap.size w2 wa) := by rw [← ewa.out]; exact (Below.refl _ _).alloc (Nat.le_refl _) _
  have Ra : Hid (Below w.heap.size w wa) := R2.out.trans (La.out.mono R2.out.size)
  have Za : Hid (Bpf wa bm p (.slice ao n c)) := by rw [← ewa.out, ← hbm.out]; exact Bpf.new w2 p _
  have Xa : Hid (Bpg wa bp p (.slice ao n c)) := X2.out.below La.out
  have Ya : Hid (Bst wa bs s.op s.dst s.src s.jump s.count s.n s.k) := Y2.out.below La.out
  have sa : Hid (wa.heap.size = bm + 1) := by rw [← ewa.out, ← hbm.out]; simp [Hid]
  have hbo : Hid (bp < bm ∧ bs < bm) := by rw [← hbm.out]; exact ⟨cell_lt (a := ⟨bp, 0, none⟩) X2.out.c0, cell_lt (a := ⟨bs, 0, none⟩) Y2.out.c0⟩
  have src2 : Hid (SrcS (wa.alloc (.cells #[] 26)) (.slice ao n c) p.steps) := by rw [← hn.out]; exact ((aH.out.below Ra.out).src cH.out).below ((Below.refl _ _).alloc (Nat.le_refl _) _)
  have own0 : Hid (OwS (wa.alloc (.cells #[] 26)) wa.heap.size (.slice (some ⟨wa.heap.size, 0, none⟩) 0 0) []) := World.ownsRow_made wa #[] 0 (Nat.le_refl _) (by decide) rfl
  have hk1 : Hid ((([] : List Sp.St).length + p.steps.length) * 56 ≤ 140737488355328) := by have := bH.out; show _ ≤ _; rw [hn.out]; simp; omega
  obtain ⟨x0, x1, x2, x3, x4⟩ := X2.out
  clear B2 hlv X1 Y1
  go_upto_region 5 with fail
  rw [ewa.out, hbm.out]
  clear x0 x1 x2 x3 x4
  have x4 := Xa.out.c4
  have x4' := fun X => cell_alloc x4 X
  go_wp2_with (first | (at_builtin; refine appSs _ rfl _ _ rfl wa.heap.size [] p.steps (.slice ao n c) wa.heap.size 0 0 rfl rfl own0.out src2.out hk1.out (by simp) ?_) | fail)
  intro v3 w3 ho3 hg3 hn3
  have F3 : Hid (Fr (fun k => wa.heap.size ≤ k) wa w3) := ((Fr.refl (fun k => wa.heap.size ≤ k) wa).alloc _).grown hg3 fun k hk => by cases hk; exact Nat.le_refl _
  have own3 : Hid (OwS w3 wa.heap.size v3 p.steps) := ho3
  have own3' : Hid (∀ o, OwS (w3.alloc o) wa.heap.size v3 p.steps) := fun o => World.ownsRow.alloc ho3 o
  have C7 : Hid (SAt (w3.alloc (.cells #[.int .i64 77, .int .i64 0, .int .i64 0, .int .i64 0, .int .i64 0, .int .i64 0, .int .i64 0] 26)) w3.heap.size 0 s770) := ⟨by simp [s770], by simp [s770], by simp [s770], by simp [s770], by simp [s770], by simp [s770], by simp [s770]⟩
  have hk2 : Hid ((p.steps.length + 1) * 56 ≤ 140737488355328) := by have h1 := bH.out; show _ ≤ _; rw [hn.out]; omega
  have hB2 : Hid (∀ o, wa.heap.size ≤ (w3.alloc o).heap.size) := fun o => by have h1 := F3.out.size; simp; omega
  clear ho3 hg3 hn3 x4 x4' own0 src2
  go_wp2_with (first | (at_builtin; refine appSt _ rfl _ _ rfl wa.heap.size p.steps s770 w3.heap.size v3 rfl rfl (own3'.out _) C7.out hk2.out (hB2.out _) ?_) | fail)
  intro v4 w4 ho4 hg4 hn4
  have F4 : Hid (Fr (fun k => wa.heap.size ≤ k) wa w4) := by
    have f1 := F3.out.alloc (.cells #[.int .i64 77, .int .i64 0, .int .i64 0, .int .i64 0, .int .i64 0, .int .i64 0, .int .i64 0] 26)
    exact f1.grown hg4 fun k hk => (World.ownsRow.lt own3.out k hk).1
  have own4 : Hid (OwS w4 wa.heap.size v4 (p.steps ++ [s770])) := ho4
  have hlen : (p.steps ++ [s770]).length = n + 1 := by simp [hn.out]
  have hrow4 : w4.ownsRow wa.heap.size 26 7 v4 (p.steps ++ [s770]).length (scs (p.steps ++ [s770])) := ho4
  rw [hlen] at hrow4
  obtain ⟨q, cap, rfl, hqc⟩ : ∃ q cap, v4 = .slice (some ⟨q, 0, none⟩) (n + 1) cap ∧ n + 1 ≤ cap := by
    rcases hrow4.2 with ⟨_, h1⟩ | ⟨q, cap, cur, h1, _, _, h4, _⟩
    · omega
    · exact ⟨q, cap, h1, h4⟩
  have qb : Hid (wa.heap.size ≤ q) := (World.ownsRow.lt hrow4 q rfl).1
  have X4 : Hid (Bpg w4 bp p (.slice ao n c)) := Xa.out.fr F4.out (by have := sa.out; have := hbo.out; omega)
  have Y4 : Hid (Bst w4 bs s.op s.dst s.src s.jump s.count s.n s.k) := Ya.out.fr F4.out (by have := sa.out; have := hbo.out; omega)
  have Z4 : Hid (Bpf w4 bm p (.slice ao n c)) := Za.out.fr F4.out (by have := sa.out; omega)
  obtain ⟨w5, ew5⟩ := hid_ex3 (w4.setCell ⟨bm, 4, none⟩ (.slice (some ⟨q, 0, none⟩) n cap))
  have f5 := set_fr w4 bm 4 (.slice (some ⟨q, 0, none⟩) n cap)
  rw [ew5.out] at f5
  have X5 : Hid (Bpg w5 bp p (.slice ao n c)) := X4.out.fr f5 (by have := hbo.out; omega)
  have Y5 : Hid (Bst w5 bs s.op s.dst s.src s.jump s.count s.n s.k) := Y4.out.fr f5 (by have := hbo.out; omega)
  have Z5 : Hid (Bpf w5 bm p (.slice (some ⟨q, 0, none⟩) n cap)) := by rw [← ew5.out]; exact Z4.out.set4 _
  have own5 : Hid (OwS w5 wa.heap.size (.slice (some ⟨q, 0, none⟩) (n + 1) cap) (p.steps ++ [s770])) := own4.out.fr f5 fun b hb h => by
    have e : q = b := Option.some.inj hb
    have h1 := qb.out; have h2 := sa.out; omega
  have hsz5 : Hid (bm = w2.heap.size) := hbm.out.symm
  have R5 : Hid (Below w.heap.size w w5) := f5.below (F4.out.below Ra.out Ra.out.size fun k _ hk => Nat.le_trans Ra.out.size hk) (Nat.le_trans Ra.out.size F4.out.size) fun k _ hk => by have h1 := R2.out.size; have h2 := hsz5.out; omega
  have sf5 : Hid (Ss w5 (some ⟨q, 0, none⟩) (p.steps ++ [s770])) := own5.out.sl16
  have x4 := X4.out.c4
  have z4 := Z4.out.bx.c4
  have zf := Z4.out.fz 4
  have hn1 : n ≤ cap := by omega
  have hnI : (n : Int) ≤ (cap : Int) := by omega
  have hqcH : Hid (n + 1 ≤ cap) := hqc
  clear ho4 hg4 hn4 hrow4 hlen own3 own3' C7 f5
  go_upto_region 7 with fail
  rw [ew5.out]
  clear x4 z4 zf
  obtain ⟨x0, x1, x2, x3, x4⟩ := Z5.out.bx
  go_wp2_with fail
  refine (htx.out w5 (some ⟨q, 0, none⟩) cap R5.out sf5.out.pre).mono ?_
  rintro e w6 ⟨rfl, B6⟩
  have R6 : Hid (Below w.heap.size w w6) := R5.out.trans (B6.mono R5.out.size)
  have P6 : Hid (Below w5.heap.size w5 w6) := B6
  clear x0 x1 x2 x3 x4 B6
  obtain ⟨x0, x1, x2, x3, x4⟩ := X5.out.below P6.out
  go_wp2_with fail
  refine (hrt.out w6 R6.out).mono ?_
  rintro e w7 ⟨rfl, B7⟩
  have R7 : Hid (Below w.heap.size w w7) := R6.out.trans (B7.mono R6.out.size)
  have P7 : Hid (Below w5.heap.size w5 w7) := P6.out.trans (B7.mono P6.out.size)
  clear x0 x1 x2 x3 x4 B7
  go_wp2_with fail
  refine (hnum.out w7 R7.out).mono ?_
  rintro e w8 ⟨rfl, B8⟩
  have R8 : Hid (Below w.heap.size w w8) := R7.out.trans (B8.mono R7.out.size)
  have P8 : Hid (Below w5.heap.size w5 w8) := P7.out.trans (B8.mono P7.out.size)
  have hsm : Hid (Calls Tryd.prog 11 #[.agg #[.int .i64 p.len, .int .i64 p.cells, .int .i64 p.inn, .int .i64 p.out, .slice (some ⟨q, 0, none⟩) n cap], .agg #[.int .i64 p.len, .int .i64 p.cells, .int .i64 p.inn, .int .i64 p.out, .slice ao n c]] w8 fun e w' => e = .returned (.bool true) ∧ Below w8.heap.size w8 w') := by
    have h1 := dsame_c p p (some ⟨q, 0, none⟩) ao n n cap c w8 (sf5.out.pre.below P8.out) (aH.out.below R8.out) hn.out.symm hn.out.symm (by have := bH.out; omega)
    rw [pgeq_iff.2 rfl] at h1
    exact h1
  obtain ⟨x0, x1, x2, x3, x4⟩ := X5.out.below P8.out
  obtain ⟨z0, z1, z2, z3, z4⟩ := (Z5.out.fr (Fr.bel P8.out) id).bx
  clear B8
  go_wp2_with fail
  refine hsm.out.mono ?_
  rintro e w9 ⟨rfl, B9⟩
  have R9 : Hid (Below w.heap.size w w9) := R8.out.trans (B9.mono R8.out.size)
  have P9 : Hid (Below w5.heap.size w5 w9) := P8.out.trans (B9.mono P8.out.size)
  clear x0 x1 x2 x3 x4 z0 z1 z2 z3 z4 B9 hsm
  obtain ⟨x0, x1, x2, x3, x4⟩ := X5.out.below P9.out
  obtain ⟨y0, y1, y2, y3, y4, y5, y6⟩ : SAt w9 q (n * 7) s770 := by
    obtain ⟨q', o', h1, h2⟩ := (sf5.out.below P9.out) n s770 (by rw [List.getElem?_append_right (by rw [hn.out]; exact Nat.le_refl _), hn.out]; simp)
    injection h1 with h1
    injection h1 with i1 i2
    subst i1 i2
    rw [Nat.zero_add] at h2
    exact h2
  have hne := run_neS s770 s770
  rw [steq_self] at hne
  simp only [s770, sv, sva] at y0 y1 y2 y3 y4 y5 y6 hne
  have hqc2 : n + 1 ≤ cap := hqcH.out
  have hb9 := bH.out
  obtain ⟨t0, t1, t2, t3, t4, t5, t6⟩ := Y5.out.below P9.out
  go_wp2_with fail
  refine (hlt.out w9 R9.out).mono ?_
  rintro e wA ⟨rfl, BA⟩
  have RA : Hid (Below w.heap.size w wA) := R9.out.trans (BA.mono R9.out.size)
  have PA : Hid (Below w5.heap.size w5 wA) := P9.out.trans (BA.mono P9.out.size)
  clear x0 x1 x2 x3 x4 y0 y1 y2 y3 y4 y5 y6 t0 t1 t2 t3 t4 t5 t6 BA hne
  obtain ⟨t0, t1, t2, t3, t4, t5, t6⟩ := Y5.out.below PA.out
  go_wp2_with fail
  refine (hrl.out wA).mono ?_
  rintro e wB ⟨rfl, BB⟩
  have RB : Hid (Below w.heap.size w wB) := RA.out.trans (BB.mono RA.out.size)
  clear t0 t1 t2 t3 t4 t5 t6 BB
  go_wp2_with fail
  refine (hnum2.out wB RB.out).mono ?_
  rintro e wC ⟨rfl, BC⟩
  have RC : Hid (Below w.heap.size w wC) := RB.out.trans (BC.mono RB.out.size)
  clear BC
  go_wp2_with fail
  go_ret
  exact ⟨rfl, RC.out⟩
end Go.Proofs.YtebknahackkhnaaDoor
