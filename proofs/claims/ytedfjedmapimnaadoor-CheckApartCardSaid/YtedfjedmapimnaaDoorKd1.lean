/-
  Package check: Touched.
-/
import Derived.Test.YtedfjedmapimnaaDoorKc9
namespace Go.Proofs.YtedfjedmapimnaaDoor
open Flo Go.RowKit
/-- two lists of the call's own, in blocks that are apart -/
structure TwoL (w : World) (B : Nat) (v1 : Value) (l1 : List Nat) (v2 : Value) (l2 : List Nat) : Prop where
  o1 : w.ownsRow B 3 1 v1 l1.length (il l1)
  o2 : w.ownsRow B 3 1 v2 l2.length (il l2)
  ap : ∀ b, v1.ownBlock = some b → v2.ownBlock ≠ some b
theorem base8 {B C : Nat} {e : TypeId} {k : Nat} {v : Value} {n : Nat} {xs : List Value} {w : World} (h : w.ownsRow B e k v n xs) (hC : C ≤ B) : w.ownsRow C e k v n xs := by
  obtain ⟨x1, x2⟩ := h
  exact ⟨x1, x2.imp id (fun ⟨g, c, cu, y1, y2, y3⟩ => ⟨g, c, cu, y1, Nat.le_trans hC y2, y3⟩)⟩
theorem two1 {B : Nat} {w0 w1 w2 : World} {v1 v2 : Value} {l1 l2 : List Nat} (h0 : B ≤ w0.heap.size) (h1 : w1.ownsRow w0.heap.size 3 1 v1 l1.length (il l1)) (h2 : w2.ownsRow w1.heap.size 3 1 v2 l2.length (il l2)) (b1 : Below w0.heap.size w0 w1) (b2 : Below w1.heap.size w1 w2) : TwoL w2 B v1 l1 v2 l2 :=
  ⟨base8 (ow8 h1 b2) h0, base8 h2 (Nat.le_trans h0 b1.size), fun b e1 e2 => by
    have := (h1.lt b e1).2
    have := (h2.lt b e2).1
    omega⟩
theorem two2 {B : Nat} {w0 w1 w2 : World} {v1 v2 : Value} {l1 l2 : List Nat} (h0 : B ≤ w0.heap.size) (h1 : w1.ownsRow w0.heap.size 3 1 v2 l2.length (il l2)) (h2 : w2.ownsRow w1.heap.size 3 1 v1 l1.length (il l1)) (b1 : Below w0.heap.size w0 w1) (b2 : Below w1.heap.size w1 w2) : TwoL w2 B v1 l1 v2 l2 :=
  ⟨base8 h2 (Nat.le_trans h0 b1.size), base8 (ow8 h1 b2) h0, fun b e1 e2 => by
    have := (h1.lt b e2).2
    have := (h2.lt b e1).1
    omega⟩
/-- the cells that a step's acts read, and those that they write -/
def rdl (s : Sp.St) : List Nat := Kc.cl (Kc.flat (Kc.touS s).rd)
def wrl (s : Sp.St) : List Nat := Kc.cl (Kc.flat (Kc.touS s).wr)
/-- what Touched answers -/
def TdE (s : Sp.St) (al : List Addr) (w : World) (e : Ending) (w' : World) : Prop :=
  Below w.heap.size w w' ∧ ((Sp.fm s = false ∧ e = .returned (.tuple #[.slice none 0 0, .slice none 0 0, ek al 8])) ∨ (Sp.fm s = true ∧ ∃ va vb, e = .returned (.tuple #[va, vb, .nilIface]) ∧ TwoL w' w.heap.size va (rdl s) vb (wrl s)))
set_option maxHeartbeats 2000000 in
theorem ktouched_c (s : Sp.St) (al : List Addr) (w : World) (hO : Ops w) (he : Pe w al) :
    Calls Tryd.prog 17 #[sv s] w fun e w' => TdE s al w e w' := by
  obtain ⟨g, hg⟩ : ∃ g, Hid (w.heap.size = g) := ⟨_, (rfl : _ = _)⟩
  obtain ⟨wa, ewa⟩ : ∃ wa, Hid (w.alloc (.cells #[.int .i64 s.op, .int .i64 s.dst, .int .i64 s.src, .int .i64 s.jump, .int .i64 s.count, .int .i64 s.n, .int .i64 s.k] 39) = wa) := ⟨_, (rfl : _ = _)⟩
  have Ba : Hid (Below w.heap.size w wa) := by rw [← ewa.out]; exact (Below.refl _ _).alloc (Nat.le_refl _) _
  have X1 : Hid (Bst wa g s.op s.dst s.src s.jump s.count s.n s.k) := by show Bst _ _ _ _ _ _ _ _ _; rw [← ewa.out, ← hg.out]; exact Bst.new w _ _ _ _ _ _ _
  have hf : Hid (Calls Tryd.prog 24 #[sv s] wa fun e w' => e = .returned (fev al (Sp.fm s)) ∧ Below wa.heap.size wa w') := sform_c s al wa (hO.below (Ba.out.mono (Nat.le_refl _))) (he.below Ba.out)
  have heH : Hid (Pe wa al) := he.below Ba.out
  cases hfm : Sp.fm s with
  | false =>
    rw [hfm] at hf
    have e1 : fev al false = ek al 8 := rfl
    rw [e1] at hf
    have hfH : Hid (Sp.fm s = false) := hfm
    have hq := nnil_c al 8
    have hgd := guard_c al 8
    obtain ⟨P, hP⟩ : ∃ P : Ending → World → Prop, Hid ((fun e w' => TdE s al w e w') = P) := ⟨_, (rfl : _ = _)⟩
    rw [hP.out]
    unfold sv sva at *
    clear hO he hfm e1
    go_enter Tryd.func17, Tryd.ntmps17
    go_upto_region 1 with fail
    rw [ewa.out, hg.out]
    obtain ⟨y0, y1, y2, y3, y4, y5, y6⟩ := X1.out
    go_wp2_with fail
    refine hf.out.mono ?_
    rintro e w1 ⟨rfl, B1⟩
    have hB : Hid (Below w.heap.size w w1) := Ba.out.trans (B1.mono Ba.out.size)
    have hp := heH.out.below B1
    unfold Pe at hp
    clear y0 y1 y2 y3 y4 y5 y6 B1 hf
    go_wp2
    go_region
    all_goals (
      go_wp2
      refine bodyPost_ret (v := .tuple #[.slice none 0 0, .slice none 0 0, ek al 8]) (by simp [results, Tryd.results17, go_sem]) rfl ?_
      rw [← hP.out]
      exact ⟨hB.out.drew, .inl ⟨hfH.out, rfl⟩⟩)
  | true =>
    have hfH : Hid (Sp.fm s = true) := hfm
    obtain ⟨o, d, a, j, c, n, h1, h2, h3, h4, h5, h6, hFo, hn⟩ := fo_of hfm
    obtain ⟨t, ht0⟩ : ∃ t, Hid (Kc.touS s = t) := ⟨_, (rfl : _ = _)⟩
    have ht1 : Kc.tou o d a j c n = t := by rw [← ht0.out]; unfold Kc.touS; rw [h1, h2, h3, h4, h5, h6]; rfl
    have ht : Hid (∀ W, Calls Tryd.prog 25 #[sv s] W fun e w' => TcE t W e w') := fun W => by
      have := ktouch_c hFo s.k W
      rw [ht1] at this
      obtain ⟨op, dst, src, jump, count, nn, k⟩ := s
      simp only at h1 h2 h3 h4 h5 h6
      subst h1 h2 h3 h4 h5 h6
      exact this
    obtain ⟨hr, hv⟩ := rok_of hFo
    obtain ⟨hl1, hl2⟩ := len_tou hFo
    rw [ht1] at hr hv hl1 hl2
    have hrH : Hid (∀ r ∈ t.rd, Rok r) := hr
    have hvH : Hid (∀ r ∈ t.wr, Rok r) := hv
    rw [hfm] at hf
    have e1 : fev al true = .nilIface := rfl
    rw [e1] at hf
    obtain ⟨P, hP⟩ : ∃ P : Ending → World → Prop, Hid ((fun e w' => TdE s al w e w') = P) := ⟨_, (rfl : _ = _)⟩
    rw [hP.out]
    unfold sv sva at *
    clear hO he hfm e1 hn hFo hr hv h1 h2 h3 h4 h5 h6 ht1
    go_enter Tryd.func17, Tryd.ntmps17
    go_upto_region 1 with fail
    rw [ewa.out, hg.out]
    obtain ⟨y0, y1, y2, y3, y4, y5, y6⟩ := X1.out
    go_wp2_with fail
    refine hf.out.mono ?_
    rintro e w1 ⟨rfl, B1⟩
    have hB1 : Hid (Below w.heap.size w w1) := Ba.out.trans (B1.mono Ba.out.size)
    have X2 := X1.out.below B1
    clear y0 y1 y2 y3 y4 y5 y6 B1 hf
    obtain ⟨y0, y1, y2, y3, y4, y5, y6⟩ := X2
    go_wp2_with fail
    refine (ht.out w1).mono ?_
    rintro e w2 ⟨v1, v2, rfl, ⟨b1, m1, rfl, R1⟩, ⟨b2, m2, rfl, R2⟩, B2⟩
    obtain ⟨n1, hn1⟩ : ∃ n, Hid (t.rd.length = n) := ⟨_, (rfl : _ = _)⟩
    obtain ⟨n2, hn2⟩ : ∃ n, Hid (t.wr.length = n) := ⟨_, (rfl : _ = _)⟩
    rw [hn1.out, hn2.out]
    clear y0 y1 y2 y3 y4 y5 y6
    have hB2 : Hid (Below w.heap.size w w2) := hB1.out.trans (B2.mono hB1.out.size)
    obtain ⟨wb, ewb⟩ : ∃ wb, Hid (w2.alloc (.cells #[.slice b1 n1 m1, .slice b2 n2 m2, .bool t.wh] 55) = wb) := ⟨_, (rfl : _ = _)⟩
    obtain ⟨G, hG⟩ : ∃ g, Hid (w2.heap.size = g) := ⟨_, (rfl : _ = _)⟩
    have Bb' : Below w2.heap.size w2 wb := by rw [← ewb.out]; exact (Below.refl _ _).alloc (Nat.le_refl _) _
    have hBb : Hid (Below w.heap.size w wb) := hB2.out.trans (Bb'.mono hB2.out.size)
    have T1 : Hid (Bto wb G (.slice b1 n1 m1) (.slice b2 n2 m2) t.wh) := by rw [← ewb.out, ← hG.out]; constructor <;> simp [go_sem]
    have R1b : Hid (RdR wb (.slice b1 n1 m1) t.rd) := ⟨b1, m1, by rw [hn1.out], R1.below Bb'⟩
    have R2b : Hid (RdR wb (.slice b2 n2 m2) t.wr) := ⟨b2, m2, by rw [hn2.out], R2.below Bb'⟩
    have c1 : Hid (∀ W, Below wb.heap.size wb W → Calls Tryd.prog 26 #[.slice b1 n1 m1] W fun e w' => ∃ v', e = .returned v' ∧ Hid (w'.ownsRow W.heap.size 3 1 v' (Kc.cl (Kc.flat t.rd)).length (il (Kc.cl (Kc.flat t.rd)))) ∧ Hid (Below W.heap.size W w') ∧ Below wb.heap.size wb w') := fun W hW => (kcells_c t.rd _ hrH.out hl1 W (R1b.out.below hW)).mono fun e w' ⟨v', h1, h2, h3⟩ => ⟨v', h1, h2, h3, hW.trans (h3.mono hW.size)⟩
    have c2 : Hid (∀ W, Below wb.heap.size wb W → Calls Tryd.prog 26 #[.slice b2 n2 m2] W fun e w' => ∃ v', e = .returned v' ∧ Hid (w'.ownsRow W.heap.size 3 1 v' (Kc.cl (Kc.flat t.wr)).length (il (Kc.cl (Kc.flat t.wr)))) ∧ Hid (Below W.heap.size W w') ∧ Below wb.heap.size wb w') := fun W hW => (kcells_c t.wr _ hvH.out hl2 W (R2b.out.below hW)).mono fun e w' ⟨v', h1, h2, h3⟩ => ⟨v', h1, h2, h3, hW.trans (h3.mono hW.size)⟩
    clear R1 R2 B2 Bb' ht
    go_upto_region 4 with fail
    rw [ewb.out, hG.out]
    obtain ⟨x0, x1, x2⟩ := T1.out
    have Bz : Below wb.heap.size wb wb := Below.refl _ _
    go_region_held3 (fun Z => Z.cell? ⟨G, 0, none⟩ = some (.slice b1 n1 m1) ∧ Z.cell? ⟨G, 1, none⟩ = some (.slice b2 n2 m2)) (go_keep) ((first
      | (go_at_call_of 26 (Value.slice b1 n1 m1); refine (c1.out _ ?_).mono ?_; (first | assumption | exact Below.drew (by assumption)); rintro e w5 ⟨va, rfl, Oa, Bva, Ba5⟩; obtain ⟨x0, x1, x2⟩ := T1.out.below Ba5)
      | (go_at_call_of 26 (Value.slice b2 n2 m2); refine (c2.out _ ?_).mono ?_; (first | assumption | exact Below.drew (by assumption)); rintro e w6 ⟨vb, rfl, Ob, Bvb, Bb5⟩; obtain ⟨x0, x1, x2⟩ := T1.out.below Bb5)))
    all_goals (
      clear x0 x1 x2
      go_wp2
      refine bodyPost_ret (v := .tuple #[va, vb, .nilIface]) (by simp [results, Tryd.results17, go_sem]) rfl ?_
      rw [← hP.out]
      first
      | exact ⟨hBb.out.trans (Bb5.mono hBb.out.size), .inr ⟨hfH.out, va, vb, rfl, by unfold rdl wrl; rw [ht0.out]; exact two1 (by exact hBb.out.size) Oa.out Ob.out Bva.out Bvb.out⟩⟩
      | exact ⟨hBb.out.trans (Ba5.mono hBb.out.size), .inr ⟨hfH.out, va, vb, rfl, by unfold rdl wrl; rw [ht0.out]; exact two2 (by exact hBb.out.size) Ob.out Oa.out Bvb.out Bva.out⟩⟩)
end Go.Proofs.YtedfjedmapimnaaDoor
