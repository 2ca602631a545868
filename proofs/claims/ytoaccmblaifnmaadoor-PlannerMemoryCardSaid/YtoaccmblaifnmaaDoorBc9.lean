/-
  Package planner's orders$1, an iterator.
-/
import Derived.Test.YtoaccmblaifnmaaDoorProg
import Derived.WalkKit
import Ieee.Arith
import Derived.WalkLawsBesides
import Derived.Outline
import Derived.Deep.QuietTactic
import Derived.BigQuiet
import Derived.WalkSmall
import Derived.RegionTactic
import Derived.Lib.Mul64
import Derived.Laws.Bits64b
import Derived.Deep.CutBlock
import Derived.Deep.DeepCutAuto
import Derived.Maps.AppendAt
import Derived.Deep.RegionHeld3
import Derived.Deep.RegionWith
import Derived.Laws.OwnMore
import Derived.RangeFuncNested
import Derived.RangeFuncBound
import Derived.RangeFuncCalls
import Derived.RangeFuncLeaves
import Derived.RangeFuncBox
import Derived.Shelf.Abstract
import Derived.Shelf.RegionOpen
import Derived.OwnWalkIn
import Derived.TacticsInMore
import Derived.LoopNIn
import Derived.LoopIn
import Derived.Laws.Rows
import Derived.Lib.ItoaNum
import Derived.Laws.IdiomStrings
import Derived.Lib.SmallJoins
import Derived.Lib.HexFns
import Derived.Test.YtoaccmblaifnmaaDoorRows
import Derived.LaidEql
import Derived.LaidLaws
import Derived.LaidHandle
import Derived.Stop.Joined
import Derived.Recover
import Derived.RegionDies
import Derived.Laws.CopyOwn
import Derived.Lib.AppendIntMem
import Derived.Laws.AppendOwn
import Derived.OwnWalk
import Derived.BigCall
import Derived.Deep.RegionHeldLaw
import Derived.Laws.FloatArith
import Derived.Laws.ComplexArith
import Derived.Laws.MakeOwn
import Derived.MapKept
import Derived.Carry
import Derived.Test.YtoaccmblaifnmaaDoorBc8
namespace Go.Proofs.YtoaccmblaifnmaaDoor
open Flo Go.RowKit Go.Shelf Tr
attribute [local go_sem] Oper.semAt_some
/-- the contract of the second parts at a length -/
def SEC (D p : Int) (F : List Int) (h M : Nat) (fv : Value) (Kn : Nat → Prop) (gs : Nat) (sec : Nat → List Tr) (q : Nat) : Prop := ∀ (V : Nat → Prop) (W : World), Srh D p F h M fv Kn V W → Bd V W →
  Calls Tryd.prog gs #[.pointer (some ⟨h, 0, none⟩), .int .i64 (q : Int)] W fun e W2 => ∃ g2 lb2 C2, e = .returned (.func (.func g2) #[] lb2) ∧ Fx C2 W2 ∧ Below W.heap.size W W2 ∧ (∀ p ∈ C2, W.heap.size ≤ p.1) ∧ (∀ args w, (callFunc g2 args).run Tryd.prog w = .ok (.enter g2 args) w) ∧ SeqU Tryd.prog g2 lb2 C2 toldO (sec q) False (Srh D p F h M fv Kn) (fun b => b = M)
theorem srh_st {D p : Int} {F : List Int} {h M : Nat} {fv : Value} {Kn : Nat → Prop} : ∀ V W W' T, Srh D p F h M fv Kn V W → KT T W W' → Ap T V → Srh D p F h M fv Kn V W' := fun _ _ _ _ a k hT => a.kt k hT
/-- what orders' regions look at -/
def S4 (B h n gs g l : Nat) (X : World) : Prop := X.cell? ⟨B, 0, none⟩ = some (.pointer (some ⟨h, 0, none⟩)) ∧ X.cell? ⟨B + 1, 0, none⟩ = some (.int .i64 (n : Int)) ∧ X.cell? ⟨B + 2, 0, none⟩ = some (.func (.func gs) #[.pointer (some ⟨h, 0, none⟩)] #[]) ∧ X.cell? ⟨g, 0, none⟩ = some (.func (.yield l) #[] #[])
def ybx (l : Nat) : Obj := .cells #[.func (.yield l) #[] #[]] 26 (0, 0)
theorem OI.s4 {Sr : (Nat → Prop) → World → Prop} {Fr : List (Nat × Obj)} {g M B h n gs l : Nat} {V U0 V0 : Nat → Prop} {W0 W : World} {J : List Tr → (Nat → Prop) → World → Prop} {pre : List Tr} (a : OI Sr Fr M V W0 J pre U0 V0 W) (hfr : (g, ybx l) ∈ Fr) (hC : Fx (oC B h n gs) W0) (hCV : ∀ p ∈ oC B h n gs, V p.1) (hm : ∃ es c, W0.heap[M]? = some (.map es c)) : S4 B h n gs g l W := by
  obtain ⟨es, c, hm⟩ := hm
  have key : ∀ (b : Nat) (v : Value) (t : TypeId), (b, Obj.cells #[v] t (0, 0)) ∈ oC B h n gs → W.cell? ⟨b, 0, none⟩ = some v := fun b v t hb => by
    have h1 : W0.heap[b]? = some (.cells #[v] t (0, 0)) := hC _ hb
    have h2 : b ≠ M := fun e => by rw [e, hm] at h1; cases h1
    rw [Joins.cell_of_block ((a.sm b (hCV _ hb) h2).trans h1)]; rfl
  refine ⟨key B _ 74 (by simp [oC]), key (B + 1) _ 3 (by simp [oC]), key (B + 2) _ 93 (by simp [oC]), ?_⟩
  rw [Joins.cell_of_block (a.fx _ hfr)]; rfl
/-- while the divisors of a length come: Bn holds the length; all blocks ahead of it are looked at as the caller's -/
def OD (Sr : (Nat → Prop) → World → Prop) (Fr : List (Nat × Obj)) (M : Nat) (V : Nat → Prop) (W0 : World) (J : List Tr → (Nat → Prop) → World → Prop) (Bn : Nat) (pre : List Tr) (Ut : Nat → Prop) (W : World) : Prop :=
  ∃ U1 V1, OI Sr Fr M V W0 J pre U1 V1 W ∧ ¬ U1 Bn ∧ ¬ V1 Bn ∧ ∀ b, Ut b ↔ U1 b ∨ V1 b ∨ b < Bn
theorem OD.stb {Sr : (Nat → Prop) → World → Prop} {Fr : List (Nat × Obj)} {M Bn : Nat} {V : Nat → Prop} {W0 : World} {J : List Tr → (Nat → Prop) → World → Prop} (hSs : ∀ V W W' T, Sr V W → KT T W W' → Ap T V → Sr V W') (hJ : Stb J) (hF : ∀ p ∈ Fr, p.1 < Bn) : Stb (OD Sr Fr M V W0 J Bn) := by
  rintro s U W W' T ⟨U1, V1, h1, h2, h3, h4⟩ hk ha
  exact ⟨U1, V1, h1.kt hSs hJ hk (fun b hb hu => ha b hb ((h4 b).2 (.inl hu))) (fun b hb hv => ha b hb ((h4 b).2 (.inr (.inl hv)))) (fun q hq ht => ha q.1 ht ((h4 _).2 (.inr (.inr (hF q hq))))), h2, h3, h4⟩
theorem gr_slice {B : Nat} {W : World} {kv : Value} {ls : List Tr} {ss : List Value} (h : Gr B W kv ls ss) : ∃ ao cap, kv = .slice ao ls.length cap := by
  rcases h.own.2 with ⟨e, e0⟩ | ⟨g, cap, cur, e', _⟩
  · exact ⟨none, 0, by rw [e, e0]⟩
  · exact ⟨_, _, e'⟩
set_option maxRecDepth 100000 in
set_option maxHeartbeats 8000000 in
theorem orders_seq {D p : Int} {F : List Int} {h M : Nat} {fv : Value} {Kn : Nat → Prop} (gp : Pl.GP D F p) (hF : F.length ≤ 1000) {n : Nat} (hdm : Pl.Dm p n) {gs : Nat} (egs : ∀ args w, (callFunc gs args).run Tryd.prog w = .ok (.enter gs args) w)
    {sec : Nat → List Tr} (hsec : ∀ q, Pl.Dm p q → Pl.mu p q < Pl.mu p n → SEC D p F h M fv Kn gs sec q) (hpts : ∀ q, Pl.Dm p q → Pl.mu p q < Pl.mu p n → ∀ t ∈ sec q, pt t ≤ 65536) (hch : Pl.inn p n ≠ 0 → CHC D p F h M fv Kn (Pl.inn p n)) (B : Nat) (tk : Prop) :
    SeqU Tryd.prog 92 (oL B) (oC B h n gs) toldO (Pl.cnd D F sec (Pl.blu p (Pl.ch D F p) n) n) tk (Srh D p F h M fv Kn) (fun b => b = M) := by
  intro m l J Jx W U V hSr hC hCV bV bU hap hJ hJx hY h0
  obtain ⟨XS, hXS⟩ : ∃ XS, Hid (Pl.cnd D F sec (Pl.blu p (Pl.ch D F p) n) n = XS) := ⟨_, (rfl : _ = _)⟩
  rw [hXS.out] at hY ⊢
  have yl : Hid (Yld Tryd.prog l tk XS J Jx) := hY
  have hJH : Hid (Stb J) := hJ
  have hJxH : Hid (Stb Jx) := hJx
  have hdH : Hid (Pl.Dm p n) := hdm
  have hn16 : n ≤ 16384 := hdm.2.1
  have hn1 : 1 ≤ n := hdm.1
  obtain ⟨g, hg⟩ : ∃ g, Hid (W.heap.size = g) := ⟨_, (rfl : _ = _)⟩
  obtain ⟨Wa, eWa⟩ : ∃ Wa, Hid (W.alloc (.cells #[.func (.yield l) #[] #[]] 26) = Wa) := ⟨_, (rfl : _ = _)⟩
  have ka : ∀ T, KT T W Wa := fun T => by rw [← eWa.out]; exact (KT.refl _ _).alloc _
  have hmp : Hid (∃ es c, W.heap[M]? = some (.map es c)) := by obtain ⟨es, c, h1, _⟩ := hSr.mp; exact ⟨es, c, h1⟩
  have Ia : Hid (OI (Srh D p F h M fv Kn) [(g, ybx l)] M V W J [] U V Wa) := by
    refine ⟨hJ _ _ _ _ (fun _ => False) h0 (ka _) (fun _ h => h.elim), hSr.kt (ka (fun _ => False)) (fun _ h => h.elim), bV.kt (ka V), bU.kt (ka V), hap, fun q hq => ?_, fun q hq => ⟨fun hu => ?_, fun hv => ?_⟩, fun b hb => hb, fun b hb => .inl hb, fun b hb _ => (ka (fun _ => False)).block b (bV b hb) id, (ka V).size⟩
    · obtain rfl := List.mem_singleton.1 hq
      show Wa.heap[g]? = _
      rw [← eWa.out, ← hg.out]; exact heap_alloc_new W _
    · obtain rfl := List.mem_singleton.1 hq
      have := bU _ hu; have := hg.out; simp only at *; omega
    · obtain rfl := List.mem_singleton.1 hq
      have := bV _ hv; have := hg.out; simp only at *; omega
  have hCH : Hid (Fx (oC B h n gs) W) := hC
  have hCVH : Hid (∀ p ∈ oC B h n gs, V p.1) := hCV
  have gpH : Hid (Pl.GP D F p) := gp
  have hsecH : Hid (∀ q, Pl.Dm p q → Pl.mu p q < Pl.mu p n → SEC D p F h M fv Kn gs sec q) := hsec
  have hptH : Hid (∀ q, Pl.Dm p q → Pl.mu p q < Pl.mu p n → ∀ t ∈ sec q, pt t ≤ 65536) := hpts
  have hchH : Hid (Pl.inn p n ≠ 0 → CHC D p F h M fv Kn (Pl.inn p n)) := hch
  have hFH : Hid (F.length ≤ 1000) := hF
  obtain ⟨s1, s2, s3, s4⟩ := Ia.out.s4 (g := g) (l := l) (by simp) hC hCV hmp.out
  have hlv : Hid (Calls Tryd.prog 93 #[.pointer (some ⟨h, 0, none⟩), .int .i64 (n : Int)] Wa (LvE Wa (Pl.lvs D F n))) := leaves_c Ia.out.sr hF n hn16
  have wsz : Hid (W.heap.size ≤ Wa.heap.size) := (ka V).size
  have bVH : Hid (Bd V W) := bV
  have bUH : Hid (Bd U W) := bU
  clear hSr hC hCV bV bU hap hJ hJx hY h0 ka gp hsec hpts hch hF hdm
  unfold oL
  refine callsIn_of_wp_marks Tryd.func92 rfl trivial ?_ rfl
  simp only [Tryd.ntmps92, List.size_toArray, List.length_cons, List.length_nil, Nat.reduceAdd, Nat.reduceSub, Array.replicate_succ, Array.replicate_zero, List.push_toArray, List.append_toArray, List.nil_append, List.cons_append]
  have t1 := s1
  have t2 := s2
  rw [← eWa.out] at t1 t2
  gi_wp2_with fail
  clear t1 t2
  rw [eWa.out, hg.out]
  refine ⟨trivial, (fun h => by cases h), (callsIn_wide.2 hlv.out).mono ?_⟩
  rintro e W1 ⟨kv, ss, rfl, hG, b1⟩
  obtain ⟨ls, hls⟩ : ∃ ls, Hid (Pl.lvs D F n = ls) := ⟨_, (rfl : _ = _)⟩
  rw [hls.out] at hG
  have hlf : Hid (∀ t ∈ ls, t.ks = [] ∧ fit t.k t.n) := by rw [← hls.out]; exact lvs_fit hn16
  have I1 : Hid (OI (Srh D p F h M fv Kn) [(g, ybx l)] M V W J [] U V W1) := Ia.out.below srh_st hJH.out b1
  obtain ⟨ao, cap, hkv⟩ := gr_slice hG
  obtain ⟨L, hL⟩ : ∃ L, Hid (ls.length = L) := ⟨_, (rfl : _ = _)⟩
  rw [hL.out] at hkv
  obtain ⟨rb, cur, hrow⟩ : ∃ rb cur, 0 < L → Lfs W1 kv ls rb cap cur ∧ Wa.heap.size ≤ rb := by
    by_cases h0 : 0 < L
    · obtain ⟨rb, cap', cur, h1, h2⟩ := hG.lfs hlf.out (by rw [hL.out]; exact h0)
      have h3 := h1.kv
      rw [hkv] at h3
      injection h3 with _ _ h4
      subst h4
      exact ⟨rb, cur, fun _ => ⟨h1, (World.ownsRow.lt hG.own rb h2).1⟩⟩
    · exact ⟨0, #[], fun h => absurd h h0⟩
  have hrowH : Hid (0 < L → Lfs W1 kv ls rb cap cur ∧ Wa.heap.size ≤ rb) := hrow
  have hL2 : L ≤ 2 := by rw [← hL.out, ← hls.out]; exact lvs_two D F n
  have wsz1 : Hid (W.heap.size ≤ W1.heap.size) := Nat.le_trans wsz.out b1.size
  have hkvH : Hid (kv = .slice ao L cap) := hkv
  rw [hkv]
  clear hG b1 hkv hrow s1 s2 s3 s4 hlv Ia
  obtain ⟨FrL, fg, fr, IL⟩ : ∃ FrL : List (Nat × Obj), Hid ((g, ybx l) ∈ FrL) ∧ Hid (0 < L → (rb, Obj.cells cur 24 (0, 0)) ∈ FrL) ∧ Hid (OI (Srh D p F h M fv Kn) FrL M V W J [] U V W1) := by
    by_cases h0 : 0 < L
    · obtain ⟨q1, q2⟩ := hrowH.out h0
      refine ⟨(rb, Obj.cells cur 24 (0, 0)) :: [(g, ybx l)], by simp [Hid], fun _ => by simp, I1.out.add q1.blk ⟨fun hu => ?_, fun hv => ?_⟩⟩
      · have := bUH.out _ hu; have := wsz.out; omega
      · have := bVH.out _ hv; have := wsz.out; omega
    · exact ⟨[(g, ybx l)], by simp [Hid], fun h => absurd h h0, I1.out⟩
  have hXl : Hid (∃ r, XS = ls ++ r) := ⟨(Nt.divs n).flatMap (Pl.stp D F sec n) ++ Pl.blu p (Pl.ch D F p) n, by rw [← hXS.out, ← hls.out]; unfold Pl.cnd; rw [List.append_assoc]⟩
  clear I1
  gi_wp2_with fail
  gi_loopw [13] (fun si wr => ∃ (k : Nat) (U0 : Nat → Prop), si = .int .i64 (k : Int) ∧ k ≤ L ∧ Hid (OI (Srh D p F h M fv Kn) FrL M V W J (ls.take k) U0 V wr)) (fun si _ => L - (RowKit.intOf si).toNat)
  case atStart => exact ⟨0, U, rfl, Nat.zero_le _, IL⟩
  case round =>
    obtain ⟨k, U0, rfl, hkL, Ik⟩ := hrel
    by_cases hlt : k < L
    · have hlt' : (k : Int) < (L : Int) := by omega
      obtain ⟨q1, q2⟩ := hrowH.out (by omega)
      have hao : ao = some ⟨rb, 0, none⟩ := by
        have h3 := q1.kv
        rw [hkvH.out] at h3
        injection h3 with h4 _ _
      subst hao
      obtain ⟨t, ht⟩ : ∃ t, ls[k]? = some t := ⟨_, List.getElem?_eq_getElem (by rw [hL.out]; exact hlt)⟩
      obtain ⟨ka, kc, hk1, hf1, d0, d1, d2⟩ := q1.at' k t ht
      have hblk : wr.heap[rb]? = some (.cells cur 24 (0, 0)) := Ik.out.fx _ (fr.out (by omega))
      have cc : ∀ i, wr.cell? ⟨rb, i, none⟩ = cur[i]? := fun i => by rw [Joins.cell_of_block hblk]
      have x0 := (cc (k * 3)).trans d0
      have x1 := (cc (k * 3 + 1)).trans d1
      have x2 := (cc (k * 3 + 2)).trans d2
      have htake : Hid (ls.take (k + 1) = ls.take k ++ [t]) := by show _ = _; rw [List.take_add_one, ht]; rfl
      clear d0 d1 d2 cc hblk q1 q2
      obtain ⟨tk1, tn1, tks⟩ := t
      simp only at hk1 hf1 x0 x1 x2
      subst hk1
      have hfH : Hid (fit tk1 tn1) := hf1
      have b2 : Below wr.heap.size wr (wr.alloc (.cells #[.int .i64 tk1, .int .i64 tn1, .slice ka 0 kc] 24)) := (Below.refl _ _).alloc (Nat.le_refl _) _
      have I2 : Hid (OI (Srh D p F h M fv Kn) FrL M V W J (ls.take k) U0 V (wr.alloc (.cells #[.int .i64 tk1, .int .i64 tn1, .slice ka 0 kc] 24))) := Ik.out.below srh_st hJH.out b2
      have y4 : (wr.alloc (.cells #[.int .i64 tk1, .int .i64 tn1, .slice ka 0 kc] 24)).cell? ⟨g, 0, none⟩ = some (.func (.yield l) #[] #[]) := by rw [Joins.cell_of_block (I2.out.fx _ fg.out)]; rfl
      have hpx : Hid (ls.take k ++ [Tr.mk tk1 tn1 []] <+: XS) := by
        obtain ⟨r, hr⟩ := hXl.out
        rw [← htake.out, hr]
        exact List.IsPrefix.trans (List.take_prefix _ _) (List.prefix_append _ _)
      obtain ⟨fn, tmps, assign, body, hy, hR⟩ := yl.out (m - 1) (ls.take k) ⟨tk1, tn1, []⟩ (.agg #[.int .i64 tk1, .int .i64 tn1, .slice ka 0 kc]) U0 (fun _ => False) _ I2.out.j (Os.leaf hfH.out) (fun _ h => h.elim) I2.out.bU (fun _ h => h.elim) hpx.out
      clear b2 ht
      gi_wp2
      refine ⟨fun h => (by cases h), hR.mono ?_⟩
      rintro e W3 ⟨U1, r, (⟨rfl, hj⟩ | ⟨rfl, hj⟩)⟩
      · have I3 : Hid (OI (Srh D p F h M fv Kn) FrL M V W J (ls.take (k + 1)) U1 V W3) := by
          rw [htake.out]
          exact I2.out.rnd srh_st r (fun _ h => h.elim) (fun _ _ h => h) hj
        clear r hj hR hy x0 x1 x2 y4 I2
        gi_wp2
        go_roundw
        case rel => exact ⟨k + 1, U1, by go_num, by omega, I3⟩
        case measure => simp [RowKit.intOf]; omega
      · have I3 : Hid (OI (Srh D p F h M fv Kn) FrL M V W Jx (ls.take k ++ [Tr.mk tk1 tn1 []]) U1 V W3) := I2.out.rnd srh_st r (fun _ h => h.elim) (fun _ _ h => h) hj
        clear r hj hR hy x0 x1 x2 y4 I2
        gi_wp2
        exact ⟨_, results_none rfl _ _ _, ⟨_, rfl⟩, U1, V, I3.out.sr, I3.out.sm, I3.out.up, I3.out.old, I3.out.bV, I3.out.bU, I3.out.ap, .inr ⟨_, hpx.out, I3.out.j⟩⟩
    · have hlt' : decide ((k : Int) < (L : Int)) = false := decide_eq_false (by omega)
      have hkL : k = L := by omega
      have I4 : Hid (OI (Srh D p F h M fv Kn) [(g, ybx l)] M V W J ls U0 V wr) := by
        have h9 := Ik.out
        rw [List.take_of_length_le (by rw [hL.out, hkL]; exact Nat.le_refl _)] at h9
        exact h9.sub fun q hq => by rw [List.mem_singleton.1 hq]; exact fg.out
      have h4 := I4.out.s4 (g := g) (l := l) (by simp) hCH.out hCVH.out hmp.out
      have s1 := h4.1
      have s2 := h4.2.1
      have hnlt : ¬ k < L := hlt
      clear hkL h4
      gi_wp2_with fail
      refine ⟨trivial, (fun h => by cases h), (divisors_in Fence.wide (m - 1) trivial rfl _ _).mono ?_⟩
      rintro e w' ⟨rfl, rfl⟩
      obtain ⟨Bn, hBn⟩ : ∃ Bn, Hid (wr.heap.size = Bn) := ⟨_, (rfl : _ = _)⟩
      obtain ⟨Wd, eWd⟩ : ∃ Wd, Hid (wr.alloc (.cells #[.int .i64 (n : Int)] 3) = Wd) := ⟨_, (rfl : _ = _)⟩
      rw [hBn.out, eWd.out]
      have gB : Hid (g < Bn) := by rw [← hBn.out]; exact blk_lt (I4.out.fx (g, ybx l) (by simp))
      have bd : Below wr.heap.size wr Wd := by rw [← eWd.out]; exact (Below.refl _ _).alloc (Nat.le_refl _) _
      have Id : Hid (OI (Srh D p F h M fv Kn) [(g, ybx l)] M V W J ls U0 V Wd) := I4.out.below srh_st hJH.out bd
      have sd : Hid (Wd.heap.size = Bn + 1) := by show _ = _; rw [← eWd.out, ← hBn.out]; simp
      have cd : Hid (Wd.heap[Bn]? = some (.cells #[.int .i64 (n : Int)] 3 (0, 0))) := by show _ = _; rw [← eWd.out, ← hBn.out]; exact heap_alloc_new wr _
      have nU : Hid (¬ U0 Bn ∧ ¬ V Bn) := ⟨fun hu => by have := I4.out.bU _ hu; have := hBn.out; omega, fun hv => by have := I4.out.bV _ hv; have := hBn.out; omega⟩
      have egH : Hid (∀ args w, (callFunc gs args).run Tryd.prog w = .ok (.enter gs args) w) := egs
      clear I4 bd s1 s2 hnlt hlt hlt' Ik egs
      gi_wp2_with fail
      refine rangeU (g := .tmp 23) (p0 := 24) rfl (fun args w => by kernel_rfl) (divs_seq Bn n hn1 hn16) (fun _ _ _ _ _ _ h _ _ => h) (fun _ _ _ _ _ _ _ => trivial) (V := fun b => b = Bn) (U := fun b => U0 b ∨ V b ∨ b < Bn) trivial
        (fun q hq => by rw [List.mem_singleton.1 hq]; exact cd.out) (fun q hq => by rw [List.mem_singleton.1 hq]) (fun b hb => by rw [hb]; have := sd.out; omega) (fun b hb => by rcases hb with hb | hb | hb; exact Id.out.bU b hb; exact Id.out.bV b hb; have := sd.out; omega)
        (fun b hb hu => by subst hb; rcases hu with hu | hu | hu; exact nU.out.1 hu; exact nU.out.2 hu; omega)
        (fun pre => OD (Srh D p F h M fv Kn) [(g, ybx l)] M V W J Bn (ls ++ pre.flatMap (Pl.stp D F sec n)))
        (fun c _ Ut W' => c = Code.ret ∧ ∃ pr, pr <+: XS ∧ OD (Srh D p F h M fv Kn) [(g, ybx l)] M V W Jx Bn pr Ut W')
        (fun s U W W' T hh hk ha => OD.stb srh_st hJH.out (fun q hq => by rw [List.mem_singleton.1 hq]; exact gB.out) _ U W W' T hh hk ha)
        (fun c s U W W' T hh hk ha => ⟨hh.1, by obtain ⟨pr, q1, q2⟩ := hh.2; exact ⟨pr, q1, OD.stb srh_st hJxH.out (fun q hq => by rw [List.mem_singleton.1 hq]; exact gB.out) _ U W W' T q2 hk ha⟩⟩)
        ⟨U0, V, by simpa using Id.out, nU.out.1, nU.out.2, fun _ => Iff.rfl⟩
        (fun _ (x : Nat) _ a' _ => a' = { tmps := #[.func (.yield l) #[] #[], .pointer (some ⟨B, 0, none⟩), .pointer (some ⟨B + 1, 0, none⟩), .pointer (some ⟨B + 2, 0, none⟩), .pointer (some ⟨g, 0, none⟩), undef, u6, .int .i64 (x : Int), undef, .pointer (some ⟨h, 0, none⟩), .int .i64 (n : Int), .slice ao L cap, .int .i64 (L : Int), .int .i64 (k : Int), .bool false, u15, u16, u17, u18, u19, u20, u21, .int .i64 (n : Int), .func (.func 110) #[] #[.pointer (some ⟨Bn, 0, none⟩)], .int .i64 (x : Int), undef, undef, undef, undef, undef, undef, undef, undef, undef, undef, undef, undef, undef, undef, undef, undef, undef, undef, undef, undef, undef, undef, undef, undef, undef, undef, undef, undef, undef, undef, undef, undef], defers := [] }) (fun _ _ _ _ _ _ _ h _ _ => h) ?assign ?body ?done ?stop
      case assign =>
        rintro l1 x v O W1 K ⟨rfl, hO⟩ hK
        gi_wp2
        exact hK _ _ (KT.refl _ _) rfl
      case body =>
        rintro l1 pre x v a' Ut O lo W2 ⟨U1, V1, oi, nb1, nb2, hUt⟩ ⟨rfl, hO⟩ hOl hUl hlo1 hlo2 hOU hp rfl
        have hxm : x ∈ Nt.divs n := hp.subset (by simp)
        have hxd : x ∣ n := (Nt.mem_divs hn1).1 hxm
        have hxn : x ≤ n := Nat.le_of_dvd hn1 hxd
        have oH : Hid (OI (Srh D p F h M fv Kn) [(g, ybx l)] M V W J (ls ++ pre.flatMap (Pl.stp D F sec n)) U1 V1 W2) := oi
        have hs4 : Hid (S4 B h n gs g l W2) := oi.s4 (g := g) (l := l) (by simp) hCH.out hCVH.out hmp.out
        have hUH : Hid (∀ b, Ut b ↔ U1 b ∨ V1 b ∨ b < Bn) := hUt
        have hUlH : Hid (∀ b, Ut b → b < lo) := hUl
        have hloH : Hid (Wd.heap.size ≤ lo ∧ lo ≤ W2.heap.size) := ⟨hlo1, hlo2⟩
        have nbH : Hid (¬ U1 Bn ∧ ¬ V1 Bn) := ⟨nb1, nb2⟩
        have hpH : Hid (pre ++ [x] <+: Nt.divs n) := hp
        have hfm : Hid ((pre ++ [x]).flatMap (Pl.stp D F sec n) = pre.flatMap (Pl.stp D F sec n) ++ Pl.stp D F sec n x) := by show _ = _; simp
        have fin0 : Hid (Pl.stp D F sec n x = [] → ∃ U', KT (fun b => Ut b ∨ (False ∧ O b) ∨ lo ≤ b) W2 W2.drew ∧ (∀ b, U' b → Ut b ∨ (False ∧ O b) ∨ lo ≤ b) ∧ Bd U' W2.drew ∧ OD (Srh D p F h M fv Kn) [(g, ybx l)] M V W J Bn (ls ++ (pre ++ [x]).flatMap (Pl.stp D F sec n)) U' W2.drew) := fun he => by
          have bdr : Below W2.heap.size W2 W2.drew := (Below.refl _ _).drew
          refine ⟨Ut, KT.of_below bdr, fun b hb => .inl hb, fun b hb => by have := hUlH.out b hb; have := hloH.out.2; have := bdr.size; omega, U1, V1, ?_, nbH.out.1, nbH.out.2, hUH.out⟩
          rw [hfm.out, he, List.append_nil]
          exact oH.out.below srh_st hJH.out bdr
        clear oi hUt hUl hlo1 hlo2 hOU hOl hO nb1 nb2 hp hxm
        by_cases c1 : 1 < x
        · by_cases c2 : x < n
          · obtain ⟨d1, d2, d3, d4, d5⟩ := Pl.quo_dm hdH.out hxd c1 c2
            obtain ⟨q, hqd⟩ : ∃ q, Hid (n / x = q) := ⟨_, (rfl : _ = _)⟩
            rw [hqd.out] at d1 d2 d3 d4 d5
            have hqH : Hid (Pl.Dm p q ∧ Pl.mu p q < Pl.mu p n) := ⟨d1, d2⟩
            have hst : Hid (Pl.stp D F sec n x = prods (Pl.lvs D F x) (sec q)) := by
              show _ = _
              unfold Pl.stp
              rw [if_pos ⟨c1, c2⟩, hqd.out]; rfl
            have e1 : (n : Int) / (x : Int) = (q : Int) := by rw [← hqd.out]; rfl
            have e2 : IntKind.i64.wrap (q : Int) = (q : Int) := by rw [IntKind.wrap_i64]; omega
            have hpx : Hid ((ls ++ pre.flatMap (Pl.stp D F sec n)) ++ prods (Pl.lvs D F x) (sec q) <+: XS) := by
              obtain ⟨r, hr⟩ := hpH.out
              refine ⟨r.flatMap (Pl.stp D F sec n) ++ Pl.blu p (Pl.ch D F p) n, ?_⟩
              rw [← hXS.out, ← hls.out, ← hst.out]
              unfold Pl.cnd
              rw [← hr]
              simp
            have hx16 : Hid (x ≤ 16384) := by show _ ≤ _; omega
            have a1 : (x : Int) > 1 := by omega
            have a2 : (x : Int) < (n : Int) := by omega
            have hMl : Hid (M < W2.heap.size) := by
              obtain ⟨es, c, hm⟩ := hmp.out
              exact Nat.lt_of_lt_of_le (blk_lt hm) oH.out.sz
            have hWB : Hid (W.heap.size ≤ W2.heap.size ∧ Bn < W2.heap.size) := ⟨oH.out.sz, by have := sd.out; have := hloH.out; omega⟩
            clear hxd hxn c1 c2 d1 d2 d3 d4 d5
            gi_wp2_with fail
            refine ordG_reg (l0 := l) (gs := gs) (q := q)
              (Z1 := fun kv W3 => ∃ ss, Gr W2.heap.size W3 kv (Pl.lvs D F x) ss ∧ Below W2.heap.size W2 W3)
              (Z2 := fun kv g2 lb2 W4 => ∃ ss C2 N3, Gr W2.heap.size W4 kv (Pl.lvs D F x) ss ∧ Below W2.heap.size W2 W4 ∧ W2.heap.size ≤ N3 ∧ (∀ b, kv.ownBlock = some b → W2.heap.size ≤ b ∧ b < N3) ∧ Fx C2 W4 ∧ (∀ r ∈ C2, N3 ≤ r.1) ∧ (∀ args w, (callFunc g2 args).run Tryd.prog w = .ok (.enter g2 args) w) ∧ SeqU Tryd.prog g2 lb2 C2 toldO (sec q) False (Srh D p F h M fv Kn) (fun b => b = M))
              (V1 := fun W5 => ∃ U', KT (fun b => Ut b ∨ (False ∧ O b) ∨ lo ≤ b) W2 W5 ∧ (∀ b, U' b → Ut b ∨ (False ∧ O b) ∨ lo ≤ b) ∧ Bd U' W5 ∧ OD (Srh D p F h M fv Kn) [(g, ybx l)] M V W J Bn (ls ++ (pre ++ [x]).flatMap (Pl.stp D F sec n)) U' W5)
              (V2 := fun W5 => ∃ U', KT (fun b => Ut b ∨ (False ∧ O b) ∨ lo ≤ b) W2 W5 ∧ (∀ b, U' b → Ut b ∨ (False ∧ O b) ∨ lo ≤ b) ∧ Bd U' W5 ∧ ∃ pr, pr <+: XS ∧ OD (Srh D p F h M fv Kn) [(g, ybx l)] M V W Jx Bn pr U' W5)
              hs4.out egH.out a1 a2 e1 e2 ?hc1 ?hc2 ?hc3 ?hq
            case hc1 =>
              refine (leaves_c (oH.out.below srh_st hJH.out ((Below.refl _ _).drew)).sr hFH.out x hx16.out).mono ?_
              rintro e W3 ⟨kv, ss, rfl, hG, b3⟩
              have b3' : Below W2.heap.size W2 W3 := (Below.refl _ _).drew.trans b3
              exact ⟨kv, rfl, (oH.out.below srh_st hJH.out b3').s4 (g := g) (l := l) (by simp) hCH.out hCVH.out hmp.out, ss, hG, b3'⟩
            case hc2 =>
              rintro kv W3 ⟨ss, hG, b3⟩
              have o3 := oH.out.below srh_st hJH.out b3
              refine (hsecH.out q hqH.out.1 hqH.out.2 V1 W3 o3.sr o3.bV).mono ?_
              rintro e W4 ⟨g2, lb2, C2, rfl, fx2, b4, hC2, eg2, sq2⟩
              have b4' : Below W2.heap.size W2 W4 := b3.trans (b4.mono b3.size)
              exact ⟨g2, lb2, rfl, (oH.out.below srh_st hJH.out b4').s4 (g := g) (l := l) (by simp) hCH.out hCVH.out hmp.out, ss, C2, W3.heap.size, hG.bel b4, b4', b3.size, fun b hb => World.ownsRow.lt hG.own b hb, fx2, hC2, eg2, sq2⟩
            case hc3 =>
              rintro kv g2 lb2 W4 ⟨ss, C2, N3, hG, b4, hN3, hkb, fx2, hC2, eg2, sq2⟩
              have o4 := oH.out.below srh_st hJH.out b4
              have h2U : Hid (∀ b, U1 b → b < W2.heap.size) := oH.out.bU
              have h2V : Hid (∀ b, V1 b → b < W2.heap.size) := oH.out.bV
              have hC2' : ∀ r ∈ C2, W2.heap.size ≤ r.1 := fun r hr => Nat.le_trans hN3 (hC2 r hr)
              refine (callsIn_wide.1 (tells_k (m := 0) eg2 sq2 srh_st (V := fun b => V1 b ∨ ∃ r ∈ C2, r.1 = b) (U0 := U1) (o4.sr.up fun b hb => .inl hb) fx2 (fun r hr => .inr ⟨r, hr, rfl⟩)
                (fun b hb => by rcases hb with hb | ⟨r, hr, rfl⟩; exact o4.bV b hb; exact blk_lt (fx2 r hr)) o4.bU (fun b hb hu => by rcases hb with hb | ⟨r, hr, rfl⟩; exact o4.ap b hb hu; have := h2U.out _ hu; have := hC2' r hr; omega)
                yl.out hJH.out hJxH.out o4.j hG (fun b hb => ⟨fun hu => by have := h2U.out _ hu; have := hkb b hb; omega, fun hv => by rcases hv with hv | ⟨r, hr, rfl⟩; have := h2V.out _ hv; have := hkb b hb; omega; have := hC2 r hr; have := hkb _ hb; omega⟩)
                (lvs_fit hx16.out) (lvs_two D F x) (fun r hr e => by have := hC2' r hr; have := hMl.out; omega) hpx.out (hptH.out q hqH.out.1 hqH.out.2))).mono ?_
              rintro e W5 ⟨U2, V2, q1, q2, q3, q4, q5, q6, q7, q8, q9, hr⟩
              have b45 : W2.heap.size ≤ W4.heap.size := b4.size
              have tl : ∀ (X : List Tr → (Nat → Prop) → World → Prop) (pr : List Tr), X pr U2 W5 → OI (Srh D p F h M fv Kn) [(g, ybx l)] M V W X pr U2 V2 W5 := fun X pr hX => by
                refine o4.tl (V1 := fun b => V1 b ∨ ∃ r ∈ C2, r.1 = b) (R := fun b => kv.ownBlock = some b) (fun b hb => .inl hb) (fun b hb => ?_) (fun r hr => ?_) q1 q2 q3 q4 q5 q6 q7 q8 q9 hX
                · rcases hb with hb | ⟨r, hr, rfl⟩
                  · exact .inl hb
                  · exact .inr (Nat.le_trans hWB.out.1 (hC2' r hr))
                · obtain rfl := List.mem_singleton.1 hr
                  have hgl : g < W2.heap.size := blk_lt (oH.out.fx (g, ybx l) (by simp))
                  refine ⟨fun hv => ?_, fun hk => ?_⟩
                  · rcases hv with hv | ⟨r, hr, he⟩
                    · exact (oH.out.fn (g, ybx l) (by simp)).2 hv
                    · have := hC2' r hr; simp only at he; omega
                  · have := (hkb _ hk).1; simp only at this; omega
              have kt5 : KT (fun b => Ut b ∨ (False ∧ O b) ∨ lo ≤ b) W2 W5 := by
                refine (KT.of_below b4).trans (q9.weak fun b hb h => ?_)
                rcases h with h | (h | ⟨r, hr, rfl⟩) | h
                · exact .inl ((hUH.out b).2 (.inl h))
                · exact .inl ((hUH.out b).2 (.inr (.inl h)))
                · exact .inr (.inr (Nat.le_trans hloH.out.2 (hC2' r hr)))
                · exact .inr (.inr (Nat.le_trans hloH.out.2 (hkb b h).1))
              have hu5 : ∀ b, (U2 b ∨ V2 b ∨ b < Bn) → Ut b ∨ (False ∧ O b) ∨ lo ≤ b := fun b hb => by
                rcases hb with hb | hb | hb
                · rcases q8 b hb with h | h | h
                  · exact .inl ((hUH.out b).2 (.inl h))
                  · exact .inr (.inr (Nat.le_trans hloH.out.2 (hkb b h).1))
                  · exact .inr (.inr (Nat.le_trans hloH.out.2 (Nat.le_trans b45 h)))
                · rcases q4 b hb with (h | ⟨r, hr, rfl⟩) | h
                  · exact .inl ((hUH.out b).2 (.inr (.inl h)))
                  · exact .inr (.inr (Nat.le_trans hloH.out.2 (hC2' r hr)))
                  · exact .inr (.inr (Nat.le_trans hloH.out.2 (Nat.le_trans b45 h)))
                · exact .inl ((hUH.out b).2 (.inr (.inr hb)))
              have hbd : Bd (fun b => U2 b ∨ V2 b ∨ b < Bn) W5 := fun b hb => by
                rcases hb with hb | hb | hb
                · exact q6 b hb
                · exact q5 b hb
                · have := hWB.out.2; have := q9.size; omega
              have nb5 : ¬ U2 Bn ∧ ¬ V2 Bn := by
                have hB2 := hWB.out.2
                refine ⟨fun hu => ?_, fun hv => ?_⟩
                · rcases q8 _ hu with h | h | h
                  · exact nbH.out.1 h
                  · have := (hkb _ h).1; omega
                  · omega
                · rcases q4 _ hv with (h | ⟨r, hr, he⟩) | h
                  · exact nbH.out.2 h
                  · have := hC2' r hr; omega
                  · omega
              have s5 : S4 B h n gs g l W5 := by
                rcases hr with ⟨_, hj⟩ | ⟨_, pr, hp, hj⟩
                · exact (tl J _ hj).s4 (g := g) (l := l) (by simp) hCH.out hCVH.out hmp.out
                · exact (tl Jx _ hj).s4 (g := g) (l := l) (by simp) hCH.out hCVH.out hmp.out
              refine ⟨?_, s5⟩
              rcases hr with ⟨rfl, hj⟩ | ⟨rfl, pr, hp, hj⟩
              · refine .inl ⟨rfl, _, kt5, hu5, hbd, U2, V2, ?_, nb5.1, nb5.2, fun _ => Iff.rfl⟩
                rw [hfm.out, hst.out, ← List.append_assoc]
                exact tl J _ hj
              · exact .inr ⟨rfl, _, kt5, hu5, hbd, pr, hp, U2, V2, tl Jx _ hj, nb5.1, nb5.2, fun _ => Iff.rfl⟩
            case hq =>
              rintro kv f b W5 (⟨rfl, h1⟩ | ⟨rfl, h1⟩)
              · have h1H : Hid _ := h1
                clear h1
                simp only [Exit.then]
                rename_i hKK
                refine hKK _ _ ?_
                clear hKK
                gi_wp2
                exact h1H.out
              · have h1H : Hid _ := h1
                clear h1
                simp only [Exit.then]
                rename_i hKK
                refine hKK _ _ ?_
                clear hKK
                gi_wp2
                obtain ⟨U', k1, k2, k3, k4⟩ := h1H.out
                exact ⟨U', k1, k2, k3, rfl, k4⟩
          · have hst : Hid (Pl.stp D F sec n x = []) := by unfold Pl.stp; rw [if_neg (fun h => c2 h.2)]; exact (rfl : _ = _)
            have a1 : (x : Int) > 1 := by omega
            have a2 : ¬ (x : Int) < (n : Int) := by omega
            clear hxd hxn c1 c2
            gi_wp2_with fail
            refine ordB_reg (l0 := l) (gs := gs) (V1 := fun W' => W' = W2.drew) hs4.out a1 (by omega) rfl ?_
            rintro W' rfl
            simp only [Exit.then]
            rename_i hKK
            refine hKK _ _ ?_
            clear hKK
            gi_wp2
            exact fin0.out hst.out
        · have hst : Hid (Pl.stp D F sec n x = []) := by unfold Pl.stp; rw [if_neg (fun h => c1 h.1)]; exact (rfl : _ = _)
          have a1 : ¬ (1 : Int) < (x : Int) := by omega
          clear hxd hxn c1
          gi_wp2_with fail
          refine ordA_reg (l0 := l) (gs := gs) (V1 := fun W' => W' = W2.drew) hs4.out (by omega) rfl ?_
          rintro W' rfl
          simp only [Exit.then]
          rename_i hKK
          refine hKK _ _ ?_
          clear hKK
          gi_wp2
          exact fin0.out hst.out
      case done =>
        rintro U' V' W2 _ _ _ _ _ _ _ nu _ ⟨U1, V1, oi, nb1, nb2, hUt⟩ hK
        have hDf : ¬ U1 Wd.heap.size ∧ ¬ V1 Wd.heap.size := ⟨fun h => nu ((hUt _).2 (.inl h)), fun h => nu ((hUt _).2 (.inr (.inl h)))⟩
        obtain ⟨Df, hDe⟩ : ∃ Df, Hid (Wd.heap.size = Df) := ⟨_, (rfl : _ = _)⟩
        rw [hDe.out] at hDf hK ⊢
        have oH : Hid (OI (Srh D p F h M fv Kn) [(Df, .deferred (some [])), (g, ybx l)] M V W J (ls ++ (Nt.divs n).flatMap (Pl.stp D F sec n)) U1 V1 W2) := oi.add hK hDf
        have hs4 := oi.s4 (g := g) (l := l) (by simp) hCH.out hCVH.out hmp.out
        have s1 := hs4.1
        have s2 := hs4.2.1
        have hin : Hid (Calls Tryd.prog 96 #[.pointer (some ⟨h, 0, none⟩), .int .i64 (n : Int)] W2 fun e W' => e = .returned (.int .i64 (Pl.inn p n : Int)) ∧ Below W2.heap.size W2 W') := inner_c oi.sr n hdH.out
        have hfin : Hid (∀ (X : List Tr → (Nat → Prop) → World → Prop) (pr : List Tr) (U2 V2 : Nat → Prop) (W5 : World), Stb X → OI (Srh D p F h M fv Kn) [(Df, .deferred (some [])), (g, ybx l)] M V W X pr U2 V2 W5 → OI (Srh D p F h M fv Kn) [(g, ybx l)] M V W X pr U2 V2 (W5.putObj Df (.deferred none))) := fun X pr U2 V2 W5 hX o => by
          have hn := o.fn (Df, .deferred (some [])) (by simp)
          refine (o.sub (Fr' := [(g, ybx l)]) (by simp)).kt srh_st hX (T := fun b => b = Df) (KT.put W5 Df _ rfl) (fun b hb hu => by subst hb; exact hn.1 hu) (fun b hb hv => by subst hb; exact hn.2 hv) (fun q hq he => ?_)
          obtain rfl := List.mem_singleton.1 hq
          have f1 := o.fx (g, ybx l) (by simp)
          have f2 := o.fx (Df, .deferred (some [])) (by simp)
          simp only at he f1 f2
          rw [he, f2] at f1
          cases f1
        clear oi nb1 nb2 hUt hs4 hK hDf nu
        obtain ⟨II, hII⟩ : ∃ II, Hid (Pl.inn p n = II) := ⟨_, (rfl : _ = _)⟩
        rw [hII.out] at hin
        gi_wp2_with fail
        refine ⟨trivial, (fun h => by cases h), (callsIn_wide.2 hin.out).mono ?_⟩
        rintro e W3 ⟨rfl, b3⟩
        have o3 : Hid (OI (Srh D p F h M fv Kn) [(Df, .deferred (some [])), (g, ybx l)] M V W J (ls ++ (Nt.divs n).flatMap (Pl.stp D F sec n)) U1 V1 W3) := oH.out.below srh_st hJH.out b3
        clear b3 hin s1 s2
        by_cases hI0 : II = 0
        · have t0 : decide ((II : Int) > 0) = false := decide_eq_false (by omega)
          have hXe : Hid (ls ++ (Nt.divs n).flatMap (Pl.stp D F sec n) = XS) := by
            show _ = _
            rw [← hXS.out, ← hls.out]
            unfold Pl.cnd Pl.blu
            rw [if_pos (by rw [hII.out, hI0]), List.append_nil]
          have hK3 := o3.out.fx (Df, .deferred (some [])) (by simp)
          have o4 := hfin.out J _ _ _ _ hJH.out o3.out
          rw [hXe.out] at o4
          have o4H : Hid _ := o4
          have hK3H : Hid (W3.heap[Df]? = some (.deferred (some []))) := hK3
          clear o4 hK3
          gi_wp2_with fail
          refine ⟨by simp, .inl ⟨_, _, rfl, run_takeDeferred hK3H.out, _, results_none rfl _ _ _, ⟨_, rfl⟩, U1, V1, o4H.out.sr, o4H.out.sm, o4H.out.up, o4H.out.old, o4H.out.bV, o4H.out.bU, o4H.out.ap, .inl o4H.out.j⟩⟩
        · have t0 : (II : Int) > 0 := by omega
          have hdi := Pl.inn_dm gpH.out.p2 hn1 (show Pl.inn p n ≠ 0 by rw [hII.out]; exact hI0)
          rw [hII.out] at hdi
          have hdiH : Hid (Pl.Dm p II ∧ Pl.mu p II < Pl.mu p n) := ⟨hdi.1, hdi.2.1⟩
          have hcc : Hid (CHC D p F h M fv Kn II) := by have h9 := hchH.out (by rw [hII.out]; exact hI0); rw [hII.out] at h9; exact h9
          have hXe : Hid ((ls ++ (Nt.divs n).flatMap (Pl.stp D F sec n)) ++ [Tr.mk 4 n [Pl.ch D F p II]] = XS) := by
            show _ = _
            rw [← hXS.out, ← hls.out]
            unfold Pl.cnd Pl.blu
            rw [if_neg (by rw [hII.out]; exact hI0), hII.out]
          have hptc : Hid (pt (Pl.ch D F p II) ≤ 65536) := by
            have h1 := (Pl.ch_gd gpH.out _ II hdi.1 (Nat.le_refl _)).few
            have h2 := Pl.pb_le hdi.1
            show _ ≤ _; omega
          have hs3 : Hid (S4 B h n gs g l W3) := o3.out.s4 (g := g) (l := l) (by simp) hCH.out hCVH.out hmp.out
          clear hdi hI0
          gi_wp2_with fail
          refine ordC_reg (l0 := l) (gs := gs) (B1 := B) (B2 := B + 1) (B3 := B + 2) (g := g)
            (Z1 := fun cv W4 => ∃ V2, OI (Srh D p F h M fv Kn) [(Df, .deferred (some [])), (g, ybx l)] M V W J (ls ++ (Nt.divs n).flatMap (Pl.stp D F sec n)) U1 V2 W4 ∧ Os V2 W4 (Pl.ch D F p II) cv)
            (Z2 := fun bv W4 => ∃ V2 N4, OI (Srh D p F h M fv Kn) [(Df, .deferred (some [])), (g, ybx l)] M V W J (ls ++ (Nt.divs n).flatMap (Pl.stp D F sec n)) U1 V2 W4 ∧ (∀ b, U1 b ∨ V2 b ∨ b = Df ∨ b = g → b < N4) ∧ N4 ≤ W4.heap.size ∧ Os (fun b => N4 ≤ b ∧ b < W4.heap.size) W4 ⟨4, n, [Pl.ch D F p II]⟩ bv)
            (V1 := fun W5 => ∃ U2 V2, OI (Srh D p F h M fv Kn) [(Df, .deferred (some [])), (g, ybx l)] M V W J XS U2 V2 W5)
            (V2 := fun W5 => ∃ U2 V2, OI (Srh D p F h M fv Kn) [(Df, .deferred (some [])), (g, ybx l)] M V W Jx XS U2 V2 W5)
            hs3.out ?hc1 ?hc2 ?hy ?hq
          case hc1 =>
            have od := o3.out.below srh_st hJH.out ((Below.refl _ _).drew)
            refine (hcc.out V1 W3.drew od.sr od.bV).mono ?_
            rintro e W4 ⟨v, V2, rfl, q1, q2, q3, q4, q5, q6⟩
            have o4 : OI (Srh D p F h M fv Kn) [(Df, .deferred (some [])), (g, ybx l)] M V W J (ls ++ (Nt.divs n).flatMap (Pl.stp D F sec n)) U1 V2 W4 := by
              have hMU : ¬ U1 M := fun hu => od.ap M od.sr.vM hu
              refine ⟨hJH.out _ _ _ _ _ od.j q6 (fun b hb hu => by subst hb; exact hMU hu), q1, q4, od.bU.kt q6, fun b hv hu => ?_, q6.fx od.fx fun q hq he => (od.fn q hq).2 (by rw [he]; exact od.sr.vM), fun q hq => ⟨(od.fn q hq).1, fun hv => ?_⟩, fun b hb => q2 b (od.up b hb), fun b hb => ?_, fun b hb hm => (q6.block b (od.bV b (od.up b hb)) hm).trans (od.sm b hb hm), Nat.le_trans od.sz q6.size⟩
              · rcases q3 b hv with h1 | h1
                · exact od.ap b h1 hu
                · have := od.bU b hu; omega
              · rcases q3 _ hv with h1 | h1
                · exact (od.fn q hq).2 h1
                · have := blk_lt (od.fx q hq); omega
              · rcases q3 b hb with h1 | h1
                · exact od.old b h1
                · exact .inr (Nat.le_trans od.sz h1)
            exact ⟨v, rfl, o4.s4 (g := g) (l := l) (by simp) hCH.out hCVH.out hmp.out, V2, o4, q5⟩
          case hc2 =>
            rintro cv W4 ⟨V2, o4, ov⟩
            refine (blue_m (Pl.ch D F p II) cv (n : Int) W4 (Os.od (S := V2) _ _ ov) hptc.out ⟨⟨by decide, by decide⟩, by omega, by omega⟩).mono ?_
            rintro e W5 ⟨bv, rfl, ob, b5⟩
            have o5 := o4.below srh_st hJH.out b5
            refine ⟨bv, rfl, o5.s4 (g := g) (l := l) (by simp) hCH.out hCVH.out hmp.out, V2, W4.heap.size, o5, ?_, b5.size, Os.keep2 (fun b hb hl => ⟨hb, hl⟩) (fun _ _ _ => rfl) _ _ ob⟩
            rintro b (hb | hb | rfl | rfl)
            · exact o4.bU b hb
            · exact o4.bV b hb
            · exact blk_lt (o4.fx (b, .deferred (some [])) (by simp))
            · exact blk_lt (o4.fx (b, ybx l) (by simp))
          case hy =>
            rintro v W4 ⟨V2, N4, o4, hN, hN4, ob⟩
            refine (yl.out (m - 1) _ _ v U1 (fun b => N4 ≤ b ∧ b < W4.heap.size) W4 o4.j ob (fun b hb => hb.2) o4.bU (fun b hb hu => by have := hN b (.inl hu); omega) (by rw [hXe.out]; exact List.prefix_refl _)).mono ?_
            rintro e W5 ⟨U2, r, hr⟩
            have rn : ∀ (X : List Tr → (Nat → Prop) → World → Prop), X XS U2 W5 → OI (Srh D p F h M fv Kn) [(Df, .deferred (some [])), (g, ybx l)] M V W X XS U2 V2 W5 := fun X hX =>
              o4.rnd srh_st r (fun b hb hv => by have := hN b (.inr (.inl hv)); omega) (fun q hq ho => by
                simp only [List.mem_cons, List.not_mem_nil, or_false] at hq
                rcases hq with rfl | rfl
                · have := hN Df (.inr (.inr (.inl rfl))); simp only at ho; omega
                · have := hN g (.inr (.inr (.inr rfl))); simp only at ho; omega) hX
            rw [hXe.out] at hr
            rcases hr with ⟨rfl, hj⟩ | ⟨rfl, hj⟩
            · exact ⟨.inl ⟨rfl, U2, V2, rn J hj⟩, (rn J hj).s4 (g := g) (l := l) (by simp) hCH.out hCVH.out hmp.out⟩
            · exact ⟨.inr ⟨rfl, U2, V2, rn Jx hj⟩, (rn Jx hj).s4 (g := g) (l := l) (by simp) hCH.out hCVH.out hmp.out⟩
          case hq =>
            rintro cv bv b W5 hh
            have hcase : Hid (∃ (X : List Tr → (Nat → Prop) → World → Prop) (U2 V2 : Nat → Prop), OI (Srh D p F h M fv Kn) [(g, ybx l)] M V W X XS U2 V2 (W5.putObj Df (.deferred none)) ∧ (X = J ∨ X = Jx)) := by
              rcases hh with ⟨rfl, U2, V2, o5⟩ | ⟨rfl, U2, V2, o5⟩
              · exact ⟨J, U2, V2, hfin.out J _ _ _ _ hJH.out o5, .inl rfl⟩
              · exact ⟨Jx, U2, V2, hfin.out Jx _ _ _ _ hJxH.out o5, .inr rfl⟩
            have hK5 : Hid (W5.heap[Df]? = some (.deferred (some []))) := by
              rcases hh with ⟨rfl, U2, V2, o5⟩ | ⟨rfl, U2, V2, o5⟩
              · exact o5.fx (Df, .deferred (some [])) (by simp)
              · exact o5.fx (Df, .deferred (some [])) (by simp)
            clear hh
            obtain ⟨X, U2, V2, o5, hX⟩ := hcase.out
            have hj5 : J XS U2 (W5.putObj Df (.deferred none)) ∨ ∃ pre, pre <+: XS ∧ Jx pre U2 (W5.putObj Df (.deferred none)) := by
              rcases hX with rfl | rfl
              · exact .inl o5.j
              · exact .inr ⟨XS, List.prefix_refl _, o5.j⟩
            exact ⟨by simp, .inl ⟨_, _, rfl, run_takeDeferred hK5.out, _, results_none rfl _ _ _, ⟨_, rfl⟩, U2, V2, o5.sr, o5.sm, o5.up, o5.old, o5.bV, o5.bU, o5.ap, hj5⟩⟩
      case stop =>
        rintro c pre U' V' W2 _ _ _ _ _ _ _ _ nu _ ⟨rfl, pr, hpr, U1, V1, oi, nb1, nb2, hUt⟩ hK
        have hDf : ¬ U1 Wd.heap.size ∧ ¬ V1 Wd.heap.size := ⟨fun h => nu ((hUt _).2 (.inl h)), fun h => nu ((hUt _).2 (.inr (.inl h)))⟩
        have hgD : g ≠ Wd.heap.size := by have := gB.out; have := sd.out; omega
        have o4 : OI (Srh D p F h M fv Kn) [(g, ybx l)] M V W Jx pr U1 V1 (W2.putObj Wd.heap.size (.deferred none)) :=
          oi.kt srh_st hJxH.out (T := fun b => b = Wd.heap.size) (KT.put W2 Wd.heap.size _ rfl) (fun b hb hu => by subst hb; exact hDf.1 hu) (fun b hb hv => by subst hb; exact hDf.2 hv) (fun q hq he => by obtain rfl := List.mem_singleton.1 hq; exact hgD he)
        refine wpIn_ret ?_
        exact ⟨by simp, .inl ⟨_, _, rfl, run_takeDeferred hK, _, results_none rfl _ _ _, ⟨_, rfl⟩, U1, V1, o4.sr, o4.sm, o4.up, o4.old, o4.bV, o4.bU, o4.ap, .inr ⟨pr, hpr, o4.j⟩⟩⟩
end Go.Proofs.YtoaccmblaifnmaaDoor
