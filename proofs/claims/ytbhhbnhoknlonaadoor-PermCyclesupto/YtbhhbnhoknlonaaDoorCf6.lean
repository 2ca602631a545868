/-
  The contracts of package perm's cycleFrom and Cycles.
-/
import Derived.Test.YtbhhbnhoknlonaaDoorAf6
namespace Go.Proofs.YtbhhbnhoknlonaaDoor
open Flo Go.RowKit Go.Shelf

/-- how long a slice is -/
def slLen : Value → Nat
  | .slice _ n _ => n
  | _ => 0
theorem ownsRow_len {W : World} {base : Nat} {e : TypeId} {size : Nat} {v : Value} {k : Nat} {xs : List Value} (h : W.ownsRow base e size v k xs) : slLen v = k := by
  rcases h.2 with ⟨rfl, hk⟩ | ⟨g, cap, _, rfl, _⟩
  · exact hk.symm
  · rfl
theorem newI (w : World) (z : Int) (B : Nat) (hB : B ≤ w.heap.size) : (w.alloc (.cells #[.int .i64 z] 3)).ownsRow B 3 1 (.slice (some ⟨w.heap.size, 0, none⟩) 1 1) 1 [.int .i64 z] :=
  ⟨rfl, .inr ⟨w.heap.size, 1, #[.int .i64 z], rfl, hB, heap_alloc_new w _, Nat.le_refl _, by unfold maxLen; omega, rfl, rfl⟩⟩
set_option maxHeartbeats 2000000 in
theorem cycleFrom_c (v : Value) (p : List Int) (x : Nat) (w : World) (hok : Pm.Ok p) (hR : RdZ w v p) (hx : x < p.length) (hn : p.length ≤ 1048576) :
    Calls Tryd.prog 35 #[v, .int .i64 (x : Int)] w fun e w' => ∃ v', e = .returned v' ∧ w'.ownsRow w.heap.size 3 1 v' (Pm.per p x) (fl (Pm.it p x) (Pm.per p x)) ∧ Below w.heap.size w w' := by
  obtain ⟨i0, hi0, hz0, hz1, hz2⟩ := info_parts infoInt
  have hokH : Hid (Pm.Ok p) := hok
  obtain ⟨ao, cap, rfl, hrd⟩ := hR
  obtain ⟨b, off, rfl, hbw, hcell⟩ := hrd (fun e => by rw [e] at hx; simp at hx)
  have hcH : Hid (∀ i, i < p.length → w.cell? ⟨b, off + i, none⟩ = some (.int .i64 (p.getD i 0))) := hcell
  have hxH : Hid (x < p.length) := hx
  have hpl : Hid (Pm.per p x ≤ 1048576) := Nat.le_trans (hok.per_le hx) hn
  obtain ⟨n, hnn⟩ : ∃ n, p.length = n := ⟨_, rfl⟩
  have hnH : Hid (p.length = n) := hnn
  have c0 := hcell x hx
  rw [hok.val hx, show Pm.sg p x = Pm.it p x 1 from rfl] at c0
  have c1 : ∀ o, (w.alloc o).cell? ⟨b, off + x, none⟩ = some (.int .i64 ((Pm.it p x 1 : Nat) : Int)) := fun o => cell_alloc c0 o
  have hx' : (x : Int) < (n : Int) := by omega
  rw [hnn] at hx hn ⊢
  clear hrd hcell hok hnn c0
  go_enter Tryd.func35, Tryd.ntmps35
  go_wp2
  clear c1
  go_loopw [5, 6] (fun sv sa wx => ∃ t : Nat, 1 ≤ t ∧ t ≤ Pm.per p x ∧ sa = .int .i64 ((Pm.it p x t : Nat) : Int) ∧ Hid (wx.ownsRow w.heap.size 3 1 sv t (fl (Pm.it p x) t)) ∧ Hid (Below w.heap.size w wx)) (fun sv _ _ => Pm.per p x - slLen sv)
  case atStart => exact ⟨1, Nat.le_refl _, Pm.per_pos p x, rfl, newI w _ _ (Nat.le_refl _), (Below.refl _ _).alloc (Nat.le_refl _) _⟩
  case round =>
    obtain ⟨t, ht1, ht2, rfl, hrow, hb⟩ := hrel
    by_cases htp : t < Pm.per p x
    · have hne : Pm.it p x t ≠ x := Pm.per_min p ht1 htp
      have q1 : ((Pm.it p x t : Int) == (x : Int)) = false := beq_eq_false_iff_ne.2 (by omega)
      have q2 : ((Pm.it p x t : Int) != (x : Int)) = true := by simp [bne, q1]
      have hit := hokH.out.it_lt hxH.out t
      have c2 : wr.cell? ⟨b, off + Pm.it p x t, none⟩ = some (.int .i64 ((Pm.it p x (t + 1) : Nat) : Int)) := by
        have := hcH.out _ hit
        rw [hokH.out.val hit] at this
        exact (hb.out.cell (p := ⟨b, off + Pm.it p x t, none⟩) hbw).trans this
      rw [hnH.out] at hit
      have hit' : (Pm.it p x t : Int) < (n : Int) := by omega
      have hsn : Hid (fl (Pm.it p x) (t + 1) = fl (Pm.it p x) t ++ [.int .i64 ((Pm.it p x t : Nat) : Int)]) := fl_snoc _ _
      have hown := hrow.out
      have hsz := hb.out.size
      have hpl2 := hpl.out
      have hlen : Hid (slLen u5 = t) := ownsRow_len hown
      clear hne
      go_wp2_with (at_builtin; refine wpList_append_own _ rfl _ _ 22 rfl w.heap.size 3 i0 (.int .i64 0) 1 8 Tryd.underlying22 hi0 hz0 hz1 hz2 rfl (by decide) _ _ _ rfl (hown.alloc _) ⟨wr.heap.size, 0, none⟩ 1 1 [.int .i64 ((Pm.it p x t : Nat) : Int)] rfl rfl ?c1 ?c2 ?c3 ?c4 ?c5 ?_)
      case c1 =>
        intro j u hj
        match j, hj with
        | 0, hj => simp at hj; subst hj; simp [Addr.add]
      case c2 => intro u hu; simp at hu; subst hu; rfl
      case c3 => unfold maxLen; omega
      case c4 => omega
      case c5 => simp; omega
      · intro v' w3 hown' hgrow hnil
        have hbl' : Hid (Below w.heap.size w w3) := (hb.out.alloc hsz _).grown hgrow (by simp; omega) (fun k' hk' => (hown.lt k' hk').1)
        have c3 : w3.cell? ⟨b, off + Pm.it p x t, none⟩ = some (.int .i64 ((Pm.it p x (t + 1) : Nat) : Int)) := by
          have h1 := hcH.out (Pm.it p x t) (by rw [hnH.out]; exact hit)
          rw [hokH.out.val (by rw [hnH.out]; exact hit)] at h1
          exact (hbl'.out.cell (p := ⟨b, off + Pm.it p x t, none⟩) hbw).trans h1
        rw [← hsn.out] at hown'
        have hown2 : Hid (w3.ownsRow w.heap.size 3 1 v' (t + 1) (fl (Pm.it p x) (t + 1))) := hown'
        have hlen2 : Hid (slLen v' = t + 1) := ownsRow_len hown'
        clear hown hown' hgrow hnil hb hrow c2
        go_wp2
        go_roundw
        case rel => exact ⟨t + 1, by omega, htp, rfl, hown2, hbl'⟩
        case measure => rw [hlen.out, hlen2.out]; omega
    · have etp : t = Pm.per p x := by omega
      have e9 : Pm.it p x t = x := by rw [etp]; exact hokH.out.it_per hxH.out
      rw [e9]
      have q2 : ((x : Int) != (x : Int)) = false := by simp
      have hrow2 : Hid (wr.ownsRow w.heap.size 3 1 u5 (Pm.per p x) (fl (Pm.it p x) (Pm.per p x))) := (by rw [← etp]; exact hrow.out : wr.ownsRow w.heap.size 3 1 u5 (Pm.per p x) (fl (Pm.it p x) (Pm.per p x)))
      clear e9 hrow etp htp ht1 ht2
      go_wp2
      go_ret
      exact ⟨_, rfl, hrow2.out, hb.out⟩
/-- what Cycles hands back -/
def CyF (w : World) (p : List Int) (fv : Value) (w' : World) : Prop :=
  (ckB p = false ∧ fv = .func (.func 32) #[] #[]) ∨
  (ckB p = true ∧ ∃ Bo g, fv = .func (.func 34) #[] #[.pointer (some ⟨Bo, 0, none⟩)] ∧ w.heap.size ≤ Bo ∧ w.heap.size ≤ g ∧ g ≠ Bo ∧ Boxed w' Bo 22 (.slice (some ⟨g, 0, none⟩) p.length p.length) ∧ w'.ownsRow w.heap.size 3 1 (.slice (some ⟨g, 0, none⟩) p.length p.length) p.length (iz p))
set_option maxHeartbeats 2000000 in
theorem pCycles_c (v : Value) (p : List Int) (w : World) (al : List Addr) (he : ErP w al) (hR : RdZ w v p) (hn : p.length ≤ 1048576) :
    Calls Tryd.prog 24 #[v] w fun e w' => ∃ fv, e = .returned fv ∧ CyF w p fv w' ∧ Below w.heap.size w w' := by
  have hRH : Hid (RdZ w v p) := hR
  have heH : Hid (ErP w al) := he
  obtain ⟨ao, cap, rfl, _⟩ := hR
  clear he
  go_enter Tryd.func24, Tryd.ntmps24
  go_wp2_with fail
  refine (pCheck_c _ p w al heH.out hRH.out (by omega)).mono ?_
  rintro e w1 ⟨rfl, b1⟩
  have B1 : Hid (Below w.heap.size w w1) := b1
  clear b1
  cases hck : ckB p
  · have hckH : Hid (ckB p = false) := hck
    rw [ckN_false hck, show er al 12 = ek al 11 from rfl]
    have n1 := nnil_c al 11
    have g1 := guard_c al 11
    clear hck
    go_wp2
    go_ret
    exact ⟨_, rfl, .inl ⟨hckH.out, rfl⟩, B1.out⟩
  · have hckH : Hid (ckB p = true) := hck
    rw [ckN_true hck, show er al 0 = Value.nilIface from rfl]
    clear hck
    go_wp2_with fail
    refine (copied_c _ p w1 (hRH.out.below B1.out) (by omega)).mono ?_
    rintro e w2 ⟨rfl, ho, b2⟩
    have O2 : Hid (w2.ownsRow w1.heap.size 3 1 (.slice (some ⟨w1.heap.size, 0, none⟩) p.length p.length) p.length (iz p)) := ho
    have B2 : Hid (Below w.heap.size w w2) := B1.out.trans (b2.mono B1.out.size)
    have hs2 : Hid (w1.heap.size < w2.heap.size) := (ho.lt w1.heap.size rfl).2
    clear ho b2
    obtain ⟨g, hg⟩ : ∃ g, w1.heap.size = g := ⟨_, rfl⟩
    have hgH : Hid (w1.heap.size = g) := hg
    rw [hg] at O2 hs2 ⊢
    clear hg
    go_wp2
    go_ret
    refine ⟨_, rfl, .inr ⟨hckH.out, w2.heap.size, g, rfl, B2.out.size, by rw [← hgH.out]; exact B1.out.size, by have := hs2.out; omega, Boxed.new _ _ _, ?_⟩, B2.out.alloc B2.out.size _⟩
    obtain ⟨x1, x2⟩ := O2.out.alloc (.cells #[.slice (some ⟨g, 0, none⟩) p.length p.length] 22)
    exact ⟨x1, x2.imp id (fun ⟨g', c, cu, y1, y2, y3⟩ => ⟨g', c, cu, y1, by have := B1.out.size; have := hgH.out; omega, y3⟩)⟩
set_option maxHeartbeats 1000000 in
/-- the iterator of what is no permutation -/
theorem cy1_stops (n : Nat) (B C : Nat) (T : Nat → Prop) (R : (Value × Nat) → World → World → Prop) (Pp : List (Value × Nat) → (Value × Nat) → Prop) (w : World) :
    SeqX Fence.wide n Tryd.prog 32 #[] (fun x : Value × Nat => #[x.1]) B C T R Pp (fun ys => ys = []) (fun _ => False) w := by
  intro l J Jx W hW hB hJ hJx hY h0
  have h0H : Hid (J [] W) := h0
  clear h0 hY hJ hJx
  refine callsIn_of_wp Tryd.func32 rfl trivial ?_ rfl
  simp only [Tryd.ntmps32, List.size_toArray, List.length_cons, List.length_nil, Nat.reduceAdd, Nat.reduceSub, Array.replicate_succ, Array.replicate_zero, List.push_toArray, List.append_toArray, List.nil_append, List.cons_append]
  gi_wp2
  go_end0
  exact ⟨⟨_, rfl⟩, .inl ⟨[], rfl, h0H.out⟩⟩
end Go.Proofs.YtbhhbnhoknlonaaDoor
