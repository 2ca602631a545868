/-
  The document's Same: alike is equal.
-/
import Derived.Test.YtfoblbpbhldngaaDoorOd3
import Derived.Deep.RegionHeld3
namespace Go.Proofs.YtfoblbpbhldngaaDoor
open Flo Go.RowKit Tr
/-- a bool comes back that tells whether a is b -/
def RE (w : World) (a b : Tr) (e : Ending) (w' : World) : Prop := ∃ r : Bool, e = .returned (.bool r) ∧ (r = true ↔ a = b) ∧ Below w.heap.size w w'
theorem tr_ne {k n k' n' : Int} {ks ks' : List Tr} (h : ¬ (k = k' ∧ n = n' ∧ ks.length = ks'.length)) : Tr.mk k n ks ≠ Tr.mk k' n' ks' := fun e => by
  simp only [Tr.mk.injEq] at e
  exact h ⟨e.1, e.2.1, by rw [e.2.2]⟩
theorem re_false {w w' : World} {a b : Tr} (h : a ≠ b) (hb : Below w.heap.size w w') : RE w a b (.returned (.bool false)) w' := ⟨false, rfl, ⟨(fun e => absurd e (by decide)), (fun e => absurd e h)⟩, hb⟩
theorem take_all {ks ks' : List Tr} {i : Nat} (h : ks.take i = ks'.take i) (h1 : ks.length = i) (h2 : ks'.length = i) : ks = ks' := by
  rw [List.take_of_length_le (by omega), List.take_of_length_le (by omega)] at h; exact h
theorem take_succ {ks ks' : List Tr} {i : Nat} {t : Tr} (h : ks.take i = ks'.take i) (h1 : ks[i]? = some t) (h2 : ks'[i]? = some t) : ks.take (i + 1) = ks'.take (i + 1) := by
  rw [List.take_add_one, List.take_add_one, h, h1, h2]
set_option maxHeartbeats 2000000 in
theorem rSame_c (a : Tr) : ∀ (b : Tr) (v u : Value) (w : World), Od w a v → Od w b u → Calls Tryd.prog 8 #[v, u] w (RE w a b) := by
  refine Tr.ind (P := fun a => ∀ (b : Tr) (v u : Value) (w : World), Od w a v → Od w b u → Calls Tryd.prog 8 #[v, u] w (RE w a b)) (fun k n ks ih0 b v u w ha hb => ?_) a
  obtain ⟨k', n', ks'⟩ := b
  obtain ⟨ao, cap, rfl, hl0, hk0⟩ := ha.kds
  obtain ⟨ao', cap', rfl, hl0', hk0'⟩ := hb.kds
  obtain ⟨L, hL⟩ : ∃ L, Hid (ks.length = L) := ⟨_, (rfl : _ = _)⟩
  obtain ⟨L', hL'⟩ : ∃ L, Hid (ks'.length = L) := ⟨_, (rfl : _ = _)⟩
  have hk : Hid (Kds w ao L ks) := by show Kds _ _ _ _; rw [← hL.out]; exact hk0
  have hk' : Hid (Kds w ao' L' ks') := by show Kds _ _ _ _; rw [← hL'.out]; exact hk0'
  have hl : L ≤ 9223372036854775807 := by rw [← hL.out]; exact hl0
  have hl' : L' ≤ 9223372036854775807 := by rw [← hL'.out]; exact hl0'
  have ih : Hid (∀ t ∈ ks, ∀ (b : Tr) (v u : Value) (w : World), Od w t v → Od w b u → Calls Tryd.prog 8 #[v, u] w (RE w t b)) := ih0
  rw [hL.out, hL'.out]
  clear hk0 hl0 ih0 ha hb hk0' hl0'
  obtain ⟨w0, hw0⟩ : ∃ w0, Hid ((w.alloc (.cells #[.int .i64 k, .int .i64 n, .slice ao L cap] 25)).alloc (.cells #[.int .i64 k', .int .i64 n', .slice ao' L' cap'] 25) = w0) := ⟨_, (rfl : _ = _)⟩
  have B0 : Hid (Below w.heap.size w w0) := by show Below _ _ _; rw [← hw0.out]; exact ((Below.refl _ _).alloc (Nat.le_refl _) _).alloc (by simp) _
  have X0 : Hid (Bx3 w0 w.heap.size k n (.slice ao L cap)) := by show Bx3 _ _ _ _ _; rw [← hw0.out]; exact (Bx3.new _ _ _ _ _).below ((Below.refl _ _).alloc (Nat.le_refl _) _)
  have Y0 : Hid (Bx3 w0 (w.heap.size + 1) k' n' (.slice ao' L' cap')) := by
    show Bx3 _ _ _ _ _; rw [← hw0.out]
    have := Bx3.new (w.alloc (.cells #[.int .i64 k, .int .i64 n, .slice ao L cap] 25)) k' n' (.slice ao' L' cap') 25
    simpa using this
  obtain ⟨g, hg⟩ : ∃ g, Hid (w.heap.size = g) := ⟨_, (rfl : _ = _)⟩
  obtain ⟨h, hh⟩ : ∃ h, Hid (w.heap.size + 1 = h) := ⟨_, (rfl : _ = _)⟩
  go_enter Tryd.func8, Tryd.ntmps8
  go_upto_region 1 with fail
  rw [hw0.out]
  rw [hh.out] at Y0 ⊢
  rw [hg.out] at X0 ⊢
  clear hw0
  have c0 := X0.out.c0
  have c1 := X0.out.c1
  have c2 := X0.out.c2
  have d0 := Y0.out.c0
  have d1 := Y0.out.c1
  have d2 := Y0.out.c2
  by_cases h1 : k = k'
  · have q1 : (k != k') = false := by rw [h1]; exact bne_self_eq_false _
    by_cases h2 : n = n'
    · have q2 : (n != n') = false := by rw [h2]; exact bne_self_eq_false _
      by_cases h3 : L = L'
      · subst h3
        have q3 : ((L : Int) != (L : Int)) = false := bne_self_eq_false _
        have hfin : Hid (∀ r : Bool, (r = true ↔ ks = ks') → (r = true ↔ Tr.mk k n ks = Tr.mk k' n' ks')) := fun r hr => by
          rw [hr, h1, h2]; simp
        have hL2 : Hid (ks'.length = L) := hL'.out
        have hk2 : Hid (Kds w ao' L ks') := hk'.out
        clear h1 h2 hk'
        go_wp2_with fail
        go_loopw [31] (fun si wx => ∃ (i : Nat), i ≤ L ∧ si = .int .i64 (i : Int) ∧ Hid (ks.take i = ks'.take i) ∧ Hid (Below w0.heap.size w0 wx)) (fun si _ => L - (intOf si).toNat)
        case atStart => exact ⟨0, Nat.zero_le _, rfl, (rfl : _ = _), Below.refl _ _⟩
        case round =>
          clear c0 c1 c2 d0 d1 d2
          obtain ⟨i, hi, rfl, hall, hb⟩ := hrel
          by_cases hlt : i < L
          · have hlt' : (i : Int) < (L : Int) := by omega
            have hbw : Hid (Below w.heap.size w wr) := btr B0.out hb.out
            obtain ⟨b1, off1, s1, t, et, K0⟩ := hk.out i hlt
            obtain ⟨b2, off2, s2, t2, et2, M0⟩ := hk2.out i hlt
            have K := K0.below hbw.out
            have M := M0.below hbw.out
            obtain rfl := K.at0
            obtain rfl := M.at0
            obtain ⟨a1, l1, p1, rfl⟩ := K.slc
            obtain ⟨a2, l2, p2, rfl⟩ := M.slc
            have e0 := K.c0
            have e1 := K.c1
            have e2 := K.c2
            have f0 := M.c0
            have f1 := M.c1
            have f2 := M.c2
            have hod : Hid (Od wr t (.agg #[.int .i64 t.k, .int .i64 t.n, .slice a1 l1 p1])) := K.od
            have hod2 : Hid (Od wr t2 (.agg #[.int .i64 t2.k, .int .i64 t2.n, .slice a2 l2 p2])) := M.od
            have c2 := (X0.out.below hb.out).c2
            have d2 := (Y0.out.below hb.out).c2
            have hcall : Hid (∀ W, Below wr.heap.size wr W → Calls Tryd.prog 8 #[.agg #[.int .i64 t.k, .int .i64 t.n, .slice a1 l1 p1], .agg #[.int .i64 t2.k, .int .i64 t2.n, .slice a2 l2 p2]] W (RE W t t2)) := fun W hW => ih.out t (List.mem_of_getElem? et) t2 _ _ W (Od.below hW _ _ hod.out) (Od.below hW _ _ hod2.out)
            have etH : Hid (ks[i]? = some t) := et
            have etH2 : Hid (ks'[i]? = some t2) := et2
            clear K K0 M M0 et et2 hod hod2
            generalize t.k = tk at *
            generalize t.n = tn at *
            generalize t2.k = tk2 at *
            generalize t2.n = tn2 at *
            go_upto_region 6 with fail
            go_cut [6] (fun st wx => ∃ r : Bool, st = .bool r ∧ Hid (r = true ↔ t = t2) ∧ Hid (Below wr.heap.size wr wx))
            case first =>
              go_region_with (first | (go_at_call 8; refine (hcall.out _ (below_drewN (Below.refl _ _) 1)).mono ?_; rintro e w1 ⟨r, rfl, hr, W1⟩; have hW1 : Hid (Below wr.heap.size wr w1) := (below_drewN (Below.refl _ _) 1).trans W1; have hrH : Hid (r = true ↔ t = t2) := hr; clear W1 hr))
              all_goals (go_wp2_with fail; go_meet; exact ⟨r, rfl, hrH, hW1⟩)
            case rest =>
              obtain ⟨r, rfl, hr, hW1⟩ := hcut
              have hB1 : Hid (Below w0.heap.size w0 wc) := btr hb.out hW1.out
              clear e0 e1 e2 f0 f1 f2 c2 d2 hcall
              cases r
              · have hne : Hid (Tr.mk k n ks ≠ Tr.mk k' n' ks') := fun e => by
                  simp only [Tr.mk.injEq] at e
                  have := etH.out
                  rw [e.2.2, etH2.out] at this
                  exact absurd (hr.out.2 (Option.some.inj this).symm) (by decide)
                go_wp2_with fail
                go_ret
                exact re_false hne.out (btr B0.out hB1.out)
              · have hnew : Hid (ks.take (i + 1) = ks'.take (i + 1)) := take_succ hall.out etH.out (by rw [etH2.out, hr.out.1 rfl])
                go_wp2_with fail
                exact ⟨⟨i + 1, by omega, by go_num, hnew, hB1⟩, by simp [intOf]; omega⟩
          · have hlt' : decide ((i : Int) < (L : Int)) = false := decide_eq_false (by omega)
            have ei : i = L := by omega
            subst ei
            have heq : Hid (Tr.mk k n ks = Tr.mk k' n' ks') := (hfin.out true ⟨(fun _ => take_all hall.out hL.out hL2.out), (fun _ => rfl)⟩).1 rfl
            go_wp2_with fail
            go_ret
            exact ⟨true, rfl, ⟨(fun _ => heq.out), (fun _ => rfl)⟩, btr B0.out hb.out⟩
      · have q3 : ((L : Int) != (L' : Int)) = true := bne_iff_ne.2 (by omega)
        have hne : Hid (Tr.mk k n ks ≠ Tr.mk k' n' ks') := tr_ne (fun h => h3 (by rw [← hL.out, ← hL'.out]; exact h.2.2))
        clear h1 h2
        go_wp2_with fail
        go_ret
        exact re_false hne.out B0.out
    · have q2 : (n != n') = true := bne_iff_ne.2 h2
      have hne : Hid (Tr.mk k n ks ≠ Tr.mk k' n' ks') := tr_ne (fun h => h2 h.2.1)
      clear h1
      go_wp2_with fail
      go_ret
      exact re_false hne.out B0.out
  · have q1 : (k != k') = true := bne_iff_ne.2 h1
    have hne : Hid (Tr.mk k n ks ≠ Tr.mk k' n' ks') := tr_ne (fun h => h1 h.1)
    go_wp2_with fail
    go_ret
    exact re_false hne.out B0.out
end Go.Proofs.YtfoblbpbhldngaaDoor
