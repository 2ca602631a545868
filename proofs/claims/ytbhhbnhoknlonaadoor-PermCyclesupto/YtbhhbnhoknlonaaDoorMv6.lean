/-
  The contracts of package perm's copied and move, at lists of ints.
-/
import Derived.Test.YtbhhbnhoknlonaaDoorSg6
import Derived.Test.YtbhhbnhoknlonaaDoorPq3
import Derived.Laws.CopyOwn
namespace Go.Proofs.YtbhhbnhoknlonaaDoor
open Flo Go.RowKit Go.Shelf
attribute [local go_sem] Oper.semAt_some

theorem infoInt1 : (Tryd.prog.info? 3).map (·.size) = some 1 := by kernel_rfl
theorem iz_one (p : List Int) : ∀ v ∈ iz p, v.oneCell' = true := fun v hv => by
  unfold iz at hv; obtain ⟨z, _, rfl⟩ := List.mem_map.1 hv; rfl
set_option maxHeartbeats 2000000 in
theorem copied_c (v : Value) (p : List Int) (w : World) (hR : RdZ w v p) (hn : p.length ≤ 1099511627776) :
    Calls Tryd.prog 33 #[v] w fun e w' => e = .returned (.slice (some ⟨w.heap.size, 0, none⟩) p.length p.length) ∧ w'.ownsRow w.heap.size 3 1 (.slice (some ⟨w.heap.size, 0, none⟩) p.length p.length) p.length (iz p) ∧ Below w.heap.size w w' := by
  obtain ⟨ao, cap, rfl, hrd⟩ := hR
  obtain ⟨n, hnn⟩ : ∃ n, p.length = n := ⟨_, rfl⟩
  rw [hnn] at hn ⊢
  have hnH : Hid (p.length = n) := hnn
  obtain ⟨w1, hmk, hrow, hb1⟩ := makeI w n hn
  have hg : w1.heap[w.heap.size]? = some (.cells (List.replicate n (Value.int .i64 0)).toArray 3 (0, 0)) := by
    rcases hrow.out.2 with ⟨h, _⟩ | ⟨g, c, cur, h, _, h2, _, _, h5, h6⟩
    · cases h
    · cases h
      rw [h2]
      have e : cur.toList = List.replicate n (.int .i64 0) := by
        rw [← h6, List.take_of_length_le]; rw [Array.length_toList, h5]; exact Nat.le_refl _
      rw [← e, Array.toArray_toList]
  have hsrc : Hid (0 < (iz p).length → ∃ ad, ao = some ad ∧ ∀ j v, (iz p)[j]? = some v → w1.cell? (ad.add j) = some v) := fun h0 => by
    rw [iz_len] at h0
    obtain ⟨b, off, rfl, hb, hc⟩ := hrd (fun e => by rw [e] at h0; simp at h0)
    refine ⟨_, rfl, fun j v hj => ?_⟩
    have hjl : j < p.length := by have := (List.getElem?_eq_some_iff.1 hj).1; rwa [iz_len] at this
    rw [iz_get p j hjl] at hj
    cases hj
    have ea : (⟨b, off, none⟩ : Addr).add j = ⟨b, off + j, none⟩ := by
      unfold Addr.add
      by_cases h : j = 0
      · subst h; simp
      · simp [h]
    rw [ea]
    exact (hb1.out.cell (p := ⟨b, off + j, none⟩) hb).trans (hc j hjl)
  obtain ⟨w2, kk, hcp, h2, hb2⟩ : ∃ w2 kk, (Builtin.copy_ #[22, 22] 3 #[.slice (some ⟨w.heap.size, 0, none⟩) n n, .slice ao n cap]).run Tryd.prog w1 = .ok (.int .i64 kk) w2 ∧ w2.heap[w.heap.size]? = some (.cells (iz p).toArray 3 (0, 0)) ∧ Below w.heap.size w w2 := by
    by_cases h0 : 0 < (iz p).length
    · obtain ⟨ad, rfl, hs⟩ := hsrc.out h0
      have hr := run_copy_row (P := Tryd.prog) w1 22 22 3 3 w.heap.size 0 n n ad n cap _ 3 (iz p) Tryd.underlying22 infoInt1 hg (by rw [iz_len, hnH.out]; simp) hs (by rw [iz_len, hnH.out]; simp) (iz_one p)
      refine ⟨_, _, hr, ?_, below_setRow hb1.out (Nat.le_refl _) _⟩
      rw [setRow_heap w1 w.heap.size _ _ 3 (0, 0) hg]
      congr 3
      simp [iz_len, hnH.out]
    · have hp : p = [] := List.length_eq_zero_iff.1 (by rw [iz_len] at h0; omega)
      subst hp
      have hn0 : n = 0 := hnH.out.symm
      subst hn0
      exact ⟨w1, 0, run_copy_none (P := Tryd.prog) w1 22 22 3 3 _ _ 0 0 0 cap Tryd.underlying22 infoInt1 rfl, hg, hb1.out⟩
  have h2H : Hid (w2.heap[w.heap.size]? = some (.cells (iz p).toArray 3 (0, 0))) := h2
  have hb2H : Hid (Below w.heap.size w w2) := hb2
  clear hg hrd hnn h2 hb2 hrow hb1 hsrc
  go_enter Tryd.func33, Tryd.ntmps33
  go_wp2
  go_ret
  refine ⟨rfl, ⟨by rw [iz_len, hnH.out, Nat.mul_one], .inr ⟨w.heap.size, n, (iz p).toArray, rfl, Nat.le_refl _, h2H.out, Nat.le_refl _, by unfold maxLen; omega, by rw [List.size_toArray, iz_len, hnH.out, Nat.mul_one], ?_⟩⟩, hb2H.out⟩
  rw [List.take_of_length_le]
  rw [iz_len, hnH.out, Nat.mul_one]; exact Nat.le_refl _
/-- a row of ints, by its places -/
def gl (h : Nat → Int) (n : Nat) : List Value := (List.range n).map fun k => Value.int .i64 (h k)
theorem gl_get (h : Nat → Int) {n i : Nat} (hi : i < n) : (gl h n)[i]? = some (.int .i64 (h i)) := by simp [gl, hi]
theorem gl_congr {h k : Nat → Int} {n : Nat} (e : ∀ i, i < n → h i = k i) : gl h n = gl k n := by
  unfold gl
  apply List.map_congr_left
  intro a ha
  rw [e a (List.mem_range.1 ha)]
theorem gl_set {h : Nat → Int} {n i : Nat} {z : Int} : (gl h n).set i (.int .i64 z) = gl (fun k => if k = i then z else h k) n := by
  apply List.ext_getElem
  · simp [gl]
  · intro k h1 h2
    rw [List.getElem_set]
    simp only [gl, List.getElem_map, List.getElem_range]
    by_cases c : i = k
    · subst c; simp
    · rw [if_neg c, if_neg (fun e => c e.symm)]
theorem iz_gl (q : List Int) : iz q = gl (fun k => q.getD k 0) q.length := by
  apply List.ext_getElem
  · simp [iz, gl]
  · intro k h1 h2
    have hk : k < q.length := by simpa [iz] using h1
    simp [iz, gl, List.getD, hk]
/-- what a list holds where the cycles of the places below k, and t places of that of k, were gone along -/
def mvx (p q : List Int) (k t y : Nat) : Int := if Pm.sx p k t y then q.getD (Pm.sg p y) 0 else q.getD y 0
theorem mvx_0 (p q : List Int) (y : Nat) : mvx p q 0 0 y = q.getD y 0 := by
  unfold mvx; rw [Pm.sx_zero, Pm.sn_zero]; rfl
theorem mvx_per (p q : List Int) (k y : Nat) : mvx p q k (Pm.per p k) y = mvx p q (k + 1) 0 y := by
  unfold mvx; rw [Pm.sx_per, Pm.sx_zero]
theorem mvx_step (p q : List Int) (n k t : Nat) : (gl (mvx p q k t) n).set (Pm.it p k t) (.int .i64 (q.getD (Pm.sg p (Pm.it p k t)) 0)) = gl (mvx p q k (t + 1)) n := by
  rw [gl_set]
  apply gl_congr
  intro y _
  unfold mvx
  rw [Pm.sx_succ]
  by_cases c : y = Pm.it p k t
  · subst c; simp
  · rw [if_neg c, show (y == Pm.it p k t) = false from beq_eq_false_iff_ne.2 c, Bool.or_false]
theorem mvx_lp {p q : List Int} (h : Pm.Ok p) {j k : Nat} (hj : j ≤ p.length) (hk : k ≤ p.length) (e : Pm.lp p j = Pm.lp p k) (y : Nat) : mvx p q j 0 y = mvx p q k 0 y := by
  have key : ∀ {a b : Nat}, a ≤ b → b ≤ p.length → Pm.lp p b = Pm.lp p a → Pm.sn p b y = Pm.sn p a y := fun {a b} hab hb e => by
    have := h.sn_lp (j := a) (d := b - a) (by omega) (by rw [show a + (b - a) = b by omega]; exact e) y
    rwa [show a + (b - a) = b by omega] at this
  unfold mvx
  rw [Pm.sx_zero, Pm.sx_zero]
  rcases Nat.le_total j k with c | c
  · rw [key c hk e.symm]
  · rw [key c hj e]
theorem mvx_full {p q : List Int} (h : Pm.Ok p) {y : Nat} (hy : y < p.length) : mvx p q p.length 0 y = q.getD (Pm.sg p y) 0 := by
  unfold mvx; rw [Pm.sx_zero, h.sn_full hy, if_pos rfl]
theorem afL_gl {p q : List Int} : iz (afL p q p.length) = gl (fun y => q.getD (Pm.sg p y) 0) p.length := by
  apply List.ext_getElem
  · simp [iz, gl, afL]
  · intro k h1 h2
    have hk : k < p.length := by simpa [gl] using h2
    simp [iz, gl, afL, Pm.sg, List.getD, hk]
theorem abx_kt {β : Type} {B C : Nat} {T : Nat → Prop} {w : World} (h : w.heap.size ≤ B) : AbX B C (fun (_ : β) W => KT T w W) := fun _ _ _ _ hs hg hr =>
  ⟨hg.os.trans hs.os, hg.tape.trans hs.tape, hg.output.trans hs.output, Nat.le_trans hs.size hg.size, fun k hk hT => (hg.block k (Nat.lt_of_lt_of_le hk hs.size) fun e => by have := (hr k e.symm).1; omega).trans (hs.block k hk hT)⟩
theorem KT.boxed {T : Nat → Prop} {w w' : World} {b : Nat} {t : TypeId} {v : Value} (h : KT T w w') (hb : Boxed w b t v) (hT : ¬ T b) : Boxed w' b t v := (h.block b hb.lt hT).trans hb
/-- how many steps of a cycle are to come -/
def mvM (p : List Int) (k : Nat) (sa : Value) : Nat := Pm.per p k - (List.range (Pm.per p k)).findIdx (fun t => Pm.it p k t == (intOf sa).toNat)
theorem mvM_eq {p : List Int} (h : Pm.Ok p) {k t : Nat} (hk : k < p.length) (ht : t < Pm.per p k) : mvM p k (.int .i64 ((Pm.it p k t : Nat) : Int)) = Pm.per p k - t := by
  have e : (List.range (Pm.per p k)).findIdx (fun u => Pm.it p k u == Pm.it p k t) = t := by
    rw [List.findIdx_eq (by rw [List.length_range]; exact ht)]
    refine ⟨by simp, fun j hj => ?_⟩
    simp only [List.getElem_range]
    simpa using h.it_ne hk hj ht
  unfold mvM
  simp only [intOf, Int.toNat_natCast, e]
end Go.Proofs.YtbhhbnhoknlonaaDoor
