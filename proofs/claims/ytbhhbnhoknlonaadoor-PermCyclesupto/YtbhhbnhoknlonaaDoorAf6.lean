/-
  The contracts of package perm's movedCopy, After and Inverse.
-/
import Derived.Test.YtbhhbnhoknlonaaDoorMw6
namespace Go.Proofs.YtbhhbnhoknlonaaDoor
open Flo Go.RowKit Go.Shelf

theorem KT.below_new {g : Nat} {w w1 w2 : World} (hb : Below w.heap.size w w1) (hk : KT (fun b => b = g) w1 w2) (hg : w.heap.size ≤ g) : Below w.heap.size w w2 :=
  ⟨hk.os.trans hb.os, hk.tape.trans hb.tape, hk.output.trans hb.output, Nat.le_trans hb.size hk.size, fun k hlt => (hk.block k (Nat.lt_of_lt_of_le hlt hb.size) (by show ¬ k = g; omega)).trans (hb.block k hlt)⟩
theorem RdZ.rdt_new {w w1 : World} {v : Value} {p : List Int} (h : RdZ w v p) (hb : Below w.heap.size w w1) {g : Nat} (hg : w.heap.size ≤ g) : RdT (fun b => b = g) w1 v p := by
  obtain ⟨ao, cap, rfl, h2⟩ := h
  refine ⟨ao, cap, rfl, fun hz => ?_⟩
  obtain ⟨b, off, rfl, h3, h4⟩ := h2 hz
  exact ⟨b, off, rfl, Nat.lt_of_lt_of_le h3 hb.size, by show ¬ b = g; omega, fun i hi => (hb.cell (p := ⟨b, off + i, none⟩) h3).trans (h4 i hi)⟩
/-- what movedCopy answers: a list, an error's number -/
def mcL (p q : List Int) : List Int := if ckB p then (if q.length = p.length then afL p q p.length else []) else []
def mcN (p q : List Int) : Nat := if ckB p then (if q.length = p.length then 0 else 7) else 12
set_option maxHeartbeats 2000000 in
theorem movedCopy_c (vq vp : Value) (p q : List Int) (w : World) (al : List Addr) (he : ErP w al) (heL : ErL w al) (hQ : RdZ w vq q) (hP : RdZ w vp p) (hn : p.length ≤ 1048576) (hm : q.length ≤ 1048576) :
    Calls Tryd.prog 28 #[vq, vp] w fun e w' => ∃ v', e = .returned (.tuple #[v', er al (mcN p q)]) ∧ w'.ownsRow w.heap.size 3 1 v' (mcL p q).length (iz (mcL p q)) ∧ Below w.heap.size w w' := by
  have hQH : Hid (RdZ w vq q) := hQ
  have hPH : Hid (RdZ w vp p) := hP
  have heH : Hid (ErP w al) := he
  have heLH : Hid (ErL w al) := heL
  obtain ⟨aq, cq, rfl, _⟩ := hQ
  obtain ⟨ap, cp, rfl, _⟩ := hP
  clear he heL
  go_enter Tryd.func28, Tryd.ntmps28
  go_wp2_with fail
  refine (copied_c _ q w hQH.out (by omega)).mono ?_
  rintro e w1 ⟨rfl, ho1, b1⟩
  have O1 : Hid (w1.ownsRow w.heap.size 3 1 (.slice (some ⟨w.heap.size, 0, none⟩) q.length q.length) q.length (iz q)) := ho1
  have B1 : Hid (Below w.heap.size w w1) := b1
  clear ho1 b1
  obtain ⟨g, hg⟩ : ∃ g, w.heap.size = g := ⟨_, rfl⟩
  have hgH : Hid (w.heap.size = g) := hg
  rw [hg] at O1 ⊢
  clear hg
  go_wp2_with fail
  refine (callsIn_wide.1 (move_in g q.length g _ p q w1 al (heH.out.below B1.out) (heLH.out.below B1.out) hn O1.out (hPH.out.rdt_new B1.out (by rw [hgH.out]; exact Nat.le_refl _)))).mono ?_
  rintro e w2 (⟨hc, rfl, hb⟩ | ⟨hc, hl, rfl, hb⟩ | ⟨hc, hl, rfl, ho, hk⟩)
  · have hf : Hid (er al (mcN p q) = ek al 11 ∧ mcL p q = []) := (⟨by unfold mcN; rw [if_neg (by rw [hc]; decide)]; rfl, by unfold mcL; rw [if_neg (by rw [hc]; decide)]⟩ : er al (mcN p q) = ek al 11 ∧ mcL p q = [])
    have B2 : Hid (Below w.heap.size w w2) := B1.out.trans (hb.mono B1.out.size)
    have n1 := nnil_c al 11
    have g1 := guard_c al 11
    clear hc hb
    go_wp2
    go_ret2
    exact ⟨_, by rw [hf.out.1]; rfl, by rw [hf.out.2]; exact World.ownsRow_nil _ _ _ _, B2.out⟩
  · have hf : Hid (er al (mcN p q) = ek al 6 ∧ mcL p q = []) := (⟨by unfold mcN; rw [if_pos hc, if_neg hl]; rfl, by unfold mcL; rw [if_pos hc, if_neg hl]⟩ : er al (mcN p q) = ek al 6 ∧ mcL p q = [])
    have B2 : Hid (Below w.heap.size w w2) := B1.out.trans (hb.mono B1.out.size)
    have n1 := nnil_c al 6
    have g1 := guard_c al 6
    clear hc hl hb
    go_wp2
    go_ret2
    exact ⟨_, by rw [hf.out.1]; rfl, by rw [hf.out.2]; exact World.ownsRow_nil _ _ _ _, B2.out⟩
  · have hf : Hid (er al (mcN p q) = .nilIface ∧ mcL p q = afL p q p.length ∧ (afL p q p.length).length = q.length) := (⟨by unfold mcN; rw [if_pos hc, if_pos hl]; rfl, by unfold mcL; rw [if_pos hc, if_pos hl], by rw [hl]; exact afL_len (Nat.le_refl _)⟩ : er al (mcN p q) = .nilIface ∧ mcL p q = afL p q p.length ∧ (afL p q p.length).length = q.length)
    have B2 : Hid (Below w.heap.size w w2) := KT.below_new B1.out hk (by rw [hgH.out]; exact Nat.le_refl _)
    have O2 : Hid (w2.ownsRow w.heap.size 3 1 (.slice (some ⟨g, 0, none⟩) q.length q.length) q.length (iz (afL p q p.length))) := (by rw [hgH.out]; exact ho : w2.ownsRow w.heap.size 3 1 (.slice (some ⟨g, 0, none⟩) q.length q.length) q.length (iz (afL p q p.length)))
    clear hc hl hk ho
    go_wp2
    go_ret2
    exact ⟨_, by rw [hf.out.1]; rfl, by rw [hf.out.2.1, hf.out.2.2]; exact O2.out, B2.out⟩
/-- After's error, by its number -/
def afN (p q : List Int) : Nat := if ckB q then mcN p q else 12
theorem afN_eq (p q : List Int) : ((afN p q : Nat) : Int) = (afZ p q).2 := by
  unfold afN afZ mcN
  cases hp : ckB p <;> cases hq : ckB q <;> simp
  by_cases h : q.length = p.length
  · rw [if_pos h, if_pos h.symm]; rfl
  · rw [if_neg h, if_neg (fun e => h e.symm)]; rfl
theorem afL_eq (p q : List Int) : (if ckB q then mcL p q else []) = (afZ p q).1 := by
  unfold afZ mcL
  cases hp : ckB p <;> cases hq : ckB q <;> simp
  by_cases h : q.length = p.length
  · rw [if_pos h, if_pos h.symm]
  · rw [if_neg h, if_neg (fun e => h e.symm)]
theorem afN_lt (p q : List Int) : afN p q < 20 := by unfold afN mcN; split <;> (try split) <;> (try split) <;> omega
set_option maxHeartbeats 2000000 in
theorem pAfter_c (vp vq : Value) (p q : List Int) (w : World) (al : List Addr) (he : ErP w al) (heL : ErL w al) (hP : RdZ w vp p) (hQ : RdZ w vq q) (hn : p.length ≤ 1048576) (hm : q.length ≤ 1048576) :
    Calls Tryd.prog 14 #[vp, vq] w fun e w' => ∃ v', e = .returned (.tuple #[v', er al (afN p q)]) ∧ w'.ownsRow w.heap.size 3 1 v' (afZ p q).1.length (iz (afZ p q).1) ∧ Below w.heap.size w w' := by
  have hQH : Hid (RdZ w vq q) := hQ
  have hPH : Hid (RdZ w vp p) := hP
  have heH : Hid (ErP w al) := he
  have heLH : Hid (ErL w al) := heL
  obtain ⟨aq, cq, rfl, _⟩ := hQ
  obtain ⟨ap, cp, rfl, _⟩ := hP
  clear he heL
  go_enter Tryd.func14, Tryd.ntmps14
  go_wp2_with fail
  refine (pCheck_c _ q w al heH.out hQH.out (by omega)).mono ?_
  rintro e w1 ⟨rfl, b1⟩
  have B1 : Hid (Below w.heap.size w w1) := b1
  clear b1
  cases hck : ckB q
  · have hf : Hid (er al (afN p q) = ek al 11 ∧ (afZ p q).1 = []) := (⟨by unfold afN; rw [if_neg (by rw [hck]; decide)]; rfl, by rw [← afL_eq, if_neg (by rw [hck]; decide)]⟩ : er al (afN p q) = ek al 11 ∧ (afZ p q).1 = [])
    rw [ckN_false hck, show er al 12 = ek al 11 from rfl]
    have n1 := nnil_c al 11
    have g1 := guard_c al 11
    clear hck
    go_wp2
    go_ret2
    exact ⟨_, by rw [hf.out.1]; rfl, by rw [hf.out.2]; exact World.ownsRow_nil _ _ _ _, B1.out⟩
  · have hf : Hid (afN p q = mcN p q ∧ (afZ p q).1 = mcL p q) := (⟨by unfold afN; rw [if_pos hck], by rw [← afL_eq, if_pos hck]⟩ : afN p q = mcN p q ∧ (afZ p q).1 = mcL p q)
    rw [ckN_true hck, show er al 0 = Value.nilIface from rfl]
    clear hck
    go_wp2_with fail
    refine (movedCopy_c _ _ p q w1 al (heH.out.below B1.out) (heLH.out.below B1.out) (hQH.out.below B1.out) (hPH.out.below B1.out) hn hm).mono ?_
    rintro e w2 ⟨v', rfl, ho, hb⟩
    have B2 : Hid (Below w.heap.size w w2) := B1.out.trans (hb.mono B1.out.size)
    have O2 : Hid (w2.ownsRow w.heap.size 3 1 v' (mcL p q).length (iz (mcL p q))) := (by
      obtain ⟨x1, x2⟩ := ho
      exact ⟨x1, x2.imp id (fun ⟨g, c, cu, y1, y2, y3⟩ => ⟨g, c, cu, y1, by have := B1.out.size; omega, y3⟩)⟩ : w2.ownsRow w.heap.size 3 1 v' (mcL p q).length (iz (mcL p q)))
    clear ho hb
    obtain ⟨ev, hev⟩ : ∃ ev, er al (mcN p q) = ev := ⟨_, rfl⟩
    have hevH : Hid (er al (mcN p q) = ev) := hev
    rw [hev]
    clear hev
    go_wp2
    go_ret2
    exact ⟨_, by rw [hf.out.1, hevH.out]; rfl, by rw [hf.out.2]; exact O2.out, B2.out⟩
set_option maxHeartbeats 2000000 in
theorem pInverse_c (v : Value) (p : List Int) (w : World) (al : List Addr) (he : ErP w al) (hR : RdZ w v p) (hn : p.length ≤ 1099511627776) :
    Calls Tryd.prog 11 #[v] w fun e w' => ∃ v', e = .returned (.tuple #[v', er al (ckN p)]) ∧ w'.ownsRow w.heap.size 3 1 v' (invZ p).length (iz (invZ p)) ∧ Below w.heap.size w w' := by
  have hRH0 : Hid (RdZ w v p) := hR
  have heH : Hid (ErP w al) := he
  clear he
  obtain ⟨ao, cap, rfl, hrd⟩ := hR
  have hRH : Hid (p ≠ [] → ∃ b off, ao = some ⟨b, off, none⟩ ∧ b < w.heap.size ∧ ∀ i, i < p.length → w.cell? ⟨b, off + i, none⟩ = some (.int .i64 (p.getD i 0))) := hrd
  clear hrd
  go_enter Tryd.func11, Tryd.ntmps11
  go_wp2_with fail
  refine (pCheck_c _ p _ al heH.out hRH0.out hn).mono ?_
  rintro e w0 ⟨rfl, b0⟩
  have B0 : Hid (Below w.heap.size w w0) := b0
  clear b0 hRH0
  cases hck : ckB p
  · have hce : Hid (er al (ckN p) = ek al 11) := (by rw [ckN_false hck]; rfl : er al (ckN p) = ek al 11)
    rw [ckN_false hck, show er al 12 = ek al 11 from rfl]
    have n1 := nnil_c al 11
    have g1 := guard_c al 11
    have hinv : Hid (invZ p = []) := (by unfold invZ; rw [if_neg (by rw [hck]; decide)] : invZ p = [])
    clear hck
    go_wp2
    go_ret2
    exact ⟨_, by rw [hce.out]; rfl, by rw [hinv.out]; exact World.ownsRow_nil _ _ _ _, B0.out⟩
  · have hce : Hid (er al (ckN p) = .nilIface) := (by rw [ckN_true hck]; rfl : er al (ckN p) = .nilIface)
    rw [ckN_true hck, show er al 0 = Value.nilIface from rfl]
    have hok : Hid (∀ j, j < p.length → okAt p j) := ckB_iff.1 hck
    have hinv : Hid (iz (invZ p) = ioL p p.length p.length ∧ (invZ p).length = p.length) := (by
      unfold invZ; rw [if_pos hck]; exact ⟨by simp [iz, ioL], by simp⟩ : iz (invZ p) = ioL p p.length p.length ∧ (invZ p).length = p.length)
    clear hck
    obtain ⟨n, hnn⟩ : ∃ n, p.length = n := ⟨_, rfl⟩
    have hnH : Hid (p.length = n) := hnn
    rw [hnn] at hn hinv ⊢
    obtain ⟨w1, hmk, hrow, hb1⟩ := makeI w0 n hn
    clear hnn
    go_wp2
    clear hmk
    go_loopw [6, 7, 18] (fun _ _ si wx => ∃ i : Nat, i ≤ n ∧ si = .int .i64 (i : Int) ∧ Hid (wx.ownsRow w0.heap.size 3 1 (.slice (some ⟨w0.heap.size, 0, none⟩) n n) n (ioL p n i)) ∧ Hid (Below w0.heap.size w0 wx)) (fun _ _ si _ => n - (intOf si).toNat)
    case atStart => exact ⟨0, Nat.zero_le _, rfl, (by rw [ioL_0]; exact hrow.out), hb1⟩
    case round =>
      clear hrow hb1
      obtain ⟨i, hi, rfl, hrow, hb⟩ := hrel
      by_cases hlt : i < n
      · have hlt' : (i : Int) < (n : Int) := by omega
        have hil : i < p.length := by rw [hnH.out]; exact hlt
        obtain ⟨b, off, rfl, hbw, hcell⟩ := hRH.out (fun e => by rw [e] at hil; simp at hil)
        obtain ⟨o1, o2, o3⟩ := hok.out i hil
        rw [hnH.out] at o2
        obtain ⟨y, hy⟩ : ∃ y : Nat, p.getD i 0 = (y : Int) := ⟨(p.getD i 0).toNat, by omega⟩
        have c1 : wr.cell? ⟨b, off + i, none⟩ = some (.int .i64 (y : Int)) := by
          rw [← hy]
          exact (hb.out.cell (p := ⟨b, off + i, none⟩) (Nat.lt_of_lt_of_le hbw B0.out.size)).trans ((B0.out.cell (p := ⟨b, off + i, none⟩) hbw).trans (hcell i hil))
        have hyn : y < n := by omega
        have hy' : (y : Int) < (n : Int) := by omega
        have c2 := hrow.out.cellAt y (by omega)
        have c3 : wr.cell? ⟨w0.heap.size, y, none⟩ = some (.int .i64 (io p i y)) := by rw [c2]; simp [ioL, hyn]
        have f2 := hrow.out.frozenAt y
        have hst := hrow.out.stored y (.int .i64 (i : Int))
        rw [ioL_step hil hy (by rw [← hy]; exact o3)] at hst
        have hst1 : Hid ((wr.setCell ⟨w0.heap.size, y, none⟩ (.int .i64 (i : Int))).ownsRow w0.heap.size 3 1 (.slice (some ⟨w0.heap.size, 0, none⟩) n n) n (ioL p n (i + 1))) := hst.1
        have hb2 : Hid (Below w0.heap.size w0 (wr.setCell ⟨w0.heap.size, y, none⟩ (.int .i64 (i : Int)))) := hb.out.setCell (p := ⟨w0.heap.size, y, none⟩) (Nat.le_refl _) _
        generalize io p i y = old at c3
        clear hcell hy o1 o2 o3 hst c2
        go_wp2
        go_roundw
        case rel => exact ⟨i + 1, by omega, by go_num, hst1, hb2⟩
        case measure => simp [intOf]; omega
      · have hlt' : decide ((i : Int) < (n : Int)) = false := decide_eq_false (by omega)
        have ei : i = n := by omega
        subst ei
        have hfin : Hid (wr.ownsRow w.heap.size 3 1 (.slice (some ⟨w0.heap.size, 0, none⟩) i i) (invZ p).length (iz (invZ p))) := (by
          rw [hinv.out.1, hinv.out.2]
          obtain ⟨x1, x2⟩ := hrow.out
          exact ⟨x1, x2.imp id (fun ⟨g, c, cu, y1, y2, y3⟩ => ⟨g, c, cu, y1, by have := B0.out.size; omega, y3⟩)⟩ : wr.ownsRow w.heap.size 3 1 (.slice (some ⟨w0.heap.size, 0, none⟩) i i) (invZ p).length (iz (invZ p)))
        go_wp2
        go_ret2
        exact ⟨_, by rw [hce.out]; rfl, hfin.out, B0.out.trans (hb.out.mono B0.out.size)⟩
end Go.Proofs.YtbhhbnhoknlonaaDoor
