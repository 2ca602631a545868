/-
  The walk of PrimesMemory, out of what was proved of package primes and of timbremem.
-/
import Derived.Test.YtkgecgkjmikihabDoorPg6
import Derived.Test.YtkgecgkjmikihabDoorLy5
import Derived.Test.YtkgecgkjmikihabDoorDv2
import Derived.Test.YtkgecgkjmikihabDoorFcO
import Derived.Test.YtkgecgkjmikihabDoorOwn6
import Derived.Test.YtkgecgkjmikihabDoorRows
namespace Go.Proofs.YtkgecgkjmikihabDoor
open Flo Go.RowKit Go.Shelf
attribute [local go_sem] Oper.semAt_some

theorem own_below {w w' : World} {B : Nat} {e : TypeId} {s : Nat} {v : Value} {n : Nat} {xs : List Value} (h : w.ownsRow B e s v n xs) (hb : Below w.heap.size w w') : w'.ownsRow B e s v n xs := by
  obtain ⟨h1, h2⟩ := h
  refine ⟨h1, ?_⟩
  rcases h2 with h2 | ⟨g, cap, cur, hv, hg, hgb, r⟩
  · exact .inl h2
  · exact .inr ⟨g, cap, cur, hv, hg, by rw [hb.block g (Array.getElem?_eq_some_iff.1 hgb).1]; exact hgb, r⟩
theorem RdI.kt {T : Nat → Prop} {w w' : World} {v : Value} {zs : List Nat} (h : RdI w v zs) (hk : KT T w w') (hT : ∀ b, v.ownBlock = some b → ¬ T b) : RdI w' v zs := by
  obtain ⟨ao, cap, rfl, h2⟩ := h
  refine ⟨ao, cap, rfl, fun hz => ?_⟩
  obtain ⟨b, off, rfl, h3, h4⟩ := h2 hz
  exact ⟨b, off, rfl, Nat.lt_of_lt_of_le h3 hk.size, fun i hi => (hk.cell (p := ⟨b, off + i, none⟩) h3 (hT b rfl)).trans (h4 i hi)⟩
theorem own_blk {β : Type} (B D : Nat) (o : Obj) (h : D < B) : OwnFrom B (fun (_ : β) (W : World) => W.heap[D]? = some o) := fun _ _ _ _ hs hg hr =>
  (hg.block D (Array.getElem?_eq_some_iff.1 hs).1 (fun e => by have := (hr D e.symm).1; omega)).trans hs
def vs2 (va vb : Value) : Nat → Value := fun t => if t = 0 then va else vb
theorem vs2_0 (va vb : Value) : vs2 va vb 0 = va := rfl
theorem vs2_1 (va vb : Value) : vs2 va vb 1 = vb := rfl
theorem lt_two {t : Nat} (h : t < 2) : t = 0 ∨ t = 1 := by omega
theorem two_rows {w : World} {va vb : Value} {n A B : Nat} {l : List Value} (ha : w.ownsRow A 3 1 va n l) (hb : w.ownsRow B 3 1 vb n l) (hlt : ∀ b, va.ownBlock = some b → b < B) : LsI w 2 (vs2 va vb) (fun _ => n) (fun _ => l) := by
  refine ⟨fun t ht => ?_, fun t u b ht hu htu h1 h2 => ?_⟩
  · rcases lt_two ht with rfl | rfl
    · exact ownsRow_low ha (Nat.zero_le _)
    · exact ownsRow_low hb (Nat.zero_le _)
  · rcases lt_two ht with rfl | rfl <;> rcases lt_two hu with rfl | rfl
    · exact htu rfl
    · have := hlt b h1; have := (hb.lt b h2).1; omega
    · have := hlt b h2; have := (hb.lt b h1).1; omega
    · exact htu rfl
set_option maxRecDepth 100000 in
set_option maxHeartbeats 8000000 in
theorem memory_in (n stop : Int) (w : World) :
    CallsIn Fence.wide 5 Tryd.prog 5 #[.int .i64 n, .int .i64 stop] w fun e w' => e = .returned (.bool true) ∧ Below w.heap.size w w' := by
  obtain ⟨s, hs⟩ := Nt.root_ex n.toNat
  have hsH : Hid (rtOk n s) := hs
  clear hs
  refine callsIn_of_wp_marks Tryd.func5 rfl trivial ?_ rfl
  simp only [Tryd.ntmps5, List.size_toArray, List.length_cons, List.length_nil, Nat.reduceAdd, Nat.reduceSub, Array.replicate_succ, Array.replicate_zero, List.push_toArray, List.append_toArray, List.nil_append, List.cons_append]
  gi_wp2_with fail
  have bS0 := (Boxed.new w 3 (.int .i64 stop)).alloc (.cells #[.bool false] 4)
  have bR0 := Boxed.new (w.alloc (.cells #[.int .i64 stop] 3)) 4 (.bool false)
  rw [World.size_alloc] at bR0
  have hb00 : Below w.heap.size w ((w.alloc (.cells #[.int .i64 stop] 3)).alloc (.cells #[.bool false] 4)) := ((Below.refl _ w).alloc (Nat.le_refl _) _).alloc (by simp) _
  have hz0 : ((w.alloc (.cells #[.int .i64 stop] 3)).alloc (.cells #[.bool false] 4)).heap.size = w.heap.size + 2 := by simp
  generalize (w.alloc (.cells #[.int .i64 stop] 3)).alloc (.cells #[.bool false] 4) = W0 at bS0 bR0 hb00 hz0 ⊢
  have bS : Hid (Boxed W0 w.heap.size 3 (.int .i64 stop)) := bS0
  have bR : Hid (Boxed W0 (w.heap.size + 1) 4 (.bool false)) := bR0
  have hb0 : Hid (Below w.heap.size w W0) := hb00
  have hzH : Hid (W0.heap.size = w.heap.size + 2) := hz0
  clear bS0 bR0 hb00 hz0
  refine ⟨trivial, (callsIn_wide.2 (fixed_c p5 _)).mono ?_⟩
  rintro e w1 ⟨rfl, b1⟩
  have B1 : Hid (Below W0.heap.size W0 w1) := b1
  clear b1
  gi_wp2_with fail
  refine ⟨trivial, (callsIn_wide.2 (rFac_o n _)).mono ?_⟩
  rintro e w2 ⟨v0, zs, rfl, hz, o0, b2⟩
  have hZ : Hid (FacO n zs) := hz
  have O0 : Hid (w2.ownsRow w1.heap.size 3 1 v0 zs.length (il zs)) := o0
  have b2H : Hid (Below w1.heap.size w1 w2) := b2
  clear hz o0 b2
  gi_wp2_with fail
  refine ⟨trivial, (callsIn_wide.2 (pFac_o n _)).mono ?_⟩
  rintro e w3 ⟨va, z1, rfl, hz, o1, b3⟩
  obtain rfl := hZ.out.eq hz
  have O1 : Hid (w3.ownsRow w2.heap.size 3 1 va zs.length (il zs)) := o1
  have b3H : Hid (Below w2.heap.size w2 w3) := b3
  clear hz o1 b3
  gi_wp2_with fail
  refine ⟨trivial, (callsIn_wide.2 (pFac_o n _)).mono ?_⟩
  rintro e w4 ⟨vb, z1, rfl, hz, o1, b4⟩
  obtain rfl := hZ.out.eq hz
  have O2 : Hid (w4.ownsRow w3.heap.size 3 1 vb zs.length (il zs)) := o1
  have b4H : Hid (Below w3.heap.size w3 w4) := b4
  clear hz o1 b4
  gi_wp2_with fail
  refine ⟨trivial, (callsIn_wide.2 (pFac_o n _)).mono ?_⟩
  rintro e w5 ⟨vc, z1, rfl, hz, o1, b5⟩
  obtain rfl := hZ.out.eq hz
  have O3 : Hid (w5.ownsRow w4.heap.size 3 1 vc zs.length (il zs)) := o1
  have b5H : Hid (Below w4.heap.size w4 w5) := b5
  have hzl : zs.length ≤ 32 := hz.len
  clear hz o1 b5
  -- all of them in the world in which they are looked at
  have P0 : Hid (w5.ownsRow w1.heap.size 3 1 v0 zs.length (il zs)) := own_below (own_below (own_below O0.out b3H.out) b4H.out) b5H.out
  have P1 : Hid (w5.ownsRow w2.heap.size 3 1 va zs.length (il zs)) := own_below (own_below O1.out b4H.out) b5H.out
  have P2 : Hid (w5.ownsRow w3.heap.size 3 1 vb zs.length (il zs)) := own_below O2.out b5H.out
  have L0 : Hid (∀ b, v0.ownBlock = some b → w1.heap.size ≤ b ∧ b < w2.heap.size) := fun b hb => O0.out.lt b hb
  have L1 : Hid (∀ b, va.ownBlock = some b → w2.heap.size ≤ b ∧ b < w3.heap.size) := fun b hb => O1.out.lt b hb
  have L2 : Hid (∀ b, vb.ownBlock = some b → w3.heap.size ≤ b ∧ b < w4.heap.size) := fun b hb => O2.out.lt b hb
  have L3 : Hid (∀ b, vc.ownBlock = some b → w4.heap.size ≤ b ∧ b < w5.heap.size) := fun b hb => O3.out.lt b hb
  have S : Hid (W0.heap.size ≤ w1.heap.size ∧ w1.heap.size ≤ w2.heap.size ∧ w2.heap.size ≤ w3.heap.size ∧ w3.heap.size ≤ w4.heap.size ∧ w4.heap.size ≤ w5.heap.size) := ⟨B1.out.size, b2H.out.size, b3H.out.size, b4H.out.size, b5H.out.size⟩
  have B5 : Hid (Below W0.heap.size W0 w5) := by
    obtain ⟨s1, s2, s3, s4, s5⟩ := S.out
    exact (((B1.out.trans (b2H.out.mono s1)).trans (b3H.out.mono (by omega))).trans (b4H.out.mono (by omega))).trans (b5H.out.mono (by omega))
  clear b2H b3H b4H b5H O0 O1 O2 B1
  obtain ⟨a1, m1, c1, rfl⟩ := ownsRow_sl P1.out
  obtain ⟨a2, m2, c2, rfl⟩ := ownsRow_sl P2.out
  gi_wp2_with fail
  refine ⟨trivial, (callsIn_wide.2 (sameInts_c _ v0 zs zs _ (RdI.of_own P1.out) (RdI.of_own P0.out) (by omega))).mono ?_⟩
  rintro e w' ⟨rfl, k1, rfl⟩
  rw [show decide (zs = zs) = true from decide_eq_true rfl]
  gi_wp2_with fail
  refine ⟨trivial, (callsIn_wide.2 (sameInts_c _ v0 zs zs (w5.drewN k1) (RdI.drewN (RdI.of_own P2.out) k1) (RdI.drewN (RdI.of_own P0.out) k1) (by omega))).mono ?_⟩
  rintro e w' ⟨rfl, k2, rfl⟩
  rw [show decide (zs = zs) = true from decide_eq_true rfl, World.drewN_drewN]
  have Q0 : Hid ((w5.drewN (k1 + k2)).ownsRow w1.heap.size 3 1 v0 zs.length (il zs)) := P0.out
  have Q1 : Hid ((w5.drewN (k1 + k2)).ownsRow w2.heap.size 3 1 (.slice a1 m1 c1) zs.length (il zs)) := P1.out
  have Q2 : Hid ((w5.drewN (k1 + k2)).ownsRow w3.heap.size 3 1 (.slice a2 m2 c2) zs.length (il zs)) := P2.out
  have Q3 : Hid ((w5.drewN (k1 + k2)).ownsRow w4.heap.size 3 1 vc zs.length (il zs)) := O3.out
  have B6 : Hid (Below W0.heap.size W0 (w5.drewN (k1 + k2))) := below_drewN B5.out _
  have s6 : Hid ((w5.drewN (k1 + k2)).heap.size = w5.heap.size) := (rfl : (w5.drewN (k1 + k2)).heap.size = w5.heap.size)
  generalize w5.drewN (k1 + k2) = w6 at Q0 Q1 Q2 Q3 B6 s6 ⊢
  clear P0 P1 P2 O3 B5
  gi_wp2_with fail
  have hKT : Hid (∀ b, Tb 2 (vs2 (.slice a1 m1 c1) (.slice a2 m2 c2)) b → w2.heap.size ≤ b ∧ b < w4.heap.size) := fun b ⟨t, ht, hb⟩ => by
    obtain ⟨s1, s2, s3, s4, s5⟩ := S.out
    rcases lt_two ht with rfl | rfl
    · have := L1.out b hb; omega
    · have := L2.out b hb; omega
  refine ⟨trivial, (callsIn_wide.2 (ownInts_c 2 w6.heap.size 2 (vs2 (.slice a1 m1 c1) (.slice a2 m2 c2)) (fun _ => zs.length) (fun _ => il zs) (w6.alloc (.cells #[(.slice a1 m1 c1), (.slice a2 m2 c2)] 29)) (by decide) (by decide) (fun _ => by show zs.length ≤ 1000; omega) (fun t ht => ?oq) ?ot (by simp) ?ol)).mono ?_⟩
  case oq =>
    rcases lt_two ht with rfl | rfl <;> simp [vs2]
  case ot =>
    intro hT
    have := hKT.out _ hT
    obtain ⟨s1, s2, s3, s4, s5⟩ := S.out
    have := s6.out
    omega
  case ol => exact two_rows (Q1.out.alloc _) (Q2.out.alloc _) (fun b hb => (L1.out b hb).2)
  rintro e w7 ⟨rfl, hkt⟩
  have hk7 : Hid (KT (Tb 2 (vs2 (.slice a1 m1 c1) (.slice a2 m2 c2))) (w6.alloc (.cells #[(.slice a1 m1 c1), (.slice a2 m2 c2)] 29)) w7) := hkt
  have R0 : Hid (RdI w7 v0 zs) := ((RdI.of_own (Q0.out.alloc _))).kt hkt (fun b hb hT => by have := hKT.out b hT; have := L0.out b hb; omega)
  have R3 : Hid (RdI w7 vc zs) := ((RdI.of_own (Q3.out.alloc _))).kt hkt (fun b hb hT => by have := hKT.out b hT; have := L3.out b hb; omega)
  have B7 : Hid (Below W0.heap.size W0 w7) := by
    obtain ⟨s1, s2, s3, s4, s5⟩ := S.out
    have s6' := s6.out
    have hB := B6.out.alloc (by omega) (.cells #[(.slice a1 m1 c1), (.slice a2 m2 c2)] 29)
    exact hB.trans ⟨hkt.os, hkt.tape, hkt.output, hkt.size, fun k hk => hkt.block k (by simp; omega) (fun hT => by have := hKT.out k hT; omega)⟩
  clear hkt hk7 Q0 Q1 Q2 Q3 B6 s6 L0 L1 L2 L3 hKT S
  gi_wp2_with fail
  refine ⟨trivial, (callsIn_wide.2 (sameInts_c vc v0 zs zs _ R3.out R0.out (by omega))).mono ?_⟩
  rintro e w' ⟨rfl, k3, rfl⟩
  rw [show decide (zs = zs) = true from decide_eq_true rfl]
  have B8 : Hid (Below W0.heap.size W0 (w7.drewN k3)) := below_drewN B7.out _
  generalize w7.drewN k3 = w8 at B8 ⊢
  clear R0 R3 B7 hzl
  gi_wp2_with fail
  refine ⟨trivial, (callsIn_wide.2 (gone_c n s hsH.out _)).mono ?_⟩
  rintro e w9 ⟨vl, rfl, ol, b9⟩
  have B9 : Hid (Below W0.heap.size W0 w9) := B8.out.trans (b9.mono B8.out.size)
  have hfew : (dvL n s).length ≤ 5000 := dvL_few hsH.out
  obtain ⟨al, cl, rfl, hrd⟩ := RdI.of_own ol
  have hR : Hid (dvL n s ≠ [] → ∃ b off, al = some ⟨b, off, none⟩ ∧ b < w9.heap.size ∧ ∀ i, i < (dvL n s).length → w9.cell? ⟨b, off + i, none⟩ = some (.int .i64 (((dvL n s).getD i 0 : Nat) : Int))) := hrd
  clear ol b9 B8 hrd
  obtain ⟨D, hD⟩ : ∃ D, dvL n s = D := ⟨_, rfl⟩
  have hDH : Hid (dvL n s = D) := hD
  rw [hD] at hR hfew ⊢
  clear hD
  have hnil := seq_nil #[.pointer (some ⟨w9.heap.size + 1, 0, none⟩)]
  gi_wp2_with (refine ⟨trivial, ?_⟩; gi_at_call 19; refine (divisors_in Fence.wide 4 trivial rfl _ _).mono ?_; rintro e w' ⟨rfl, rfl⟩)
  obtain ⟨H, hH⟩ : ∃ H, w9.heap.size = H := ⟨_, rfl⟩
  have hHH : Hid (w9.heap.size = H) := hH
  have bL0 := ((Boxed.new w9 29 (.slice al D.length cl)).alloc (.cells #[.int .i64 n] 3)).alloc (.cells #[.int .i64 0] 3)
  have bN0 := (Boxed.new (w9.alloc (.cells #[.slice al D.length cl] 29)) 3 (.int .i64 n)).alloc (.cells #[.int .i64 0] 3)
  have bK0 := Boxed.new ((w9.alloc (.cells #[.slice al D.length cl] 29)).alloc (.cells #[.int .i64 n] 3)) 3 (.int .i64 0)
  have B10 : Below w9.heap.size w9 (((w9.alloc (.cells #[.slice al D.length cl] 29)).alloc (.cells #[.int .i64 n] 3)).alloc (.cells #[.int .i64 0] 3)) := (((Below.refl _ w9).alloc (Nat.le_refl _) _).alloc (by simp) _).alloc (by simp; omega) _
  have hz10 : (((w9.alloc (.cells #[.slice al D.length cl] 29)).alloc (.cells #[.int .i64 n] 3)).alloc (.cells #[.int .i64 0] 3)).heap.size = H + 3 := by simp [hH]
  simp only [World.size_alloc] at bN0 bK0
  rw [hH] at bL0 bN0 bK0 B10 ⊢
  generalize (((w9.alloc (.cells #[.slice al D.length cl] 29)).alloc (.cells #[.int .i64 n] 3)).alloc (.cells #[.int .i64 0] 3)) = Wk at bL0 bN0 bK0 B10 hz10 ⊢
  have hzK : Hid (Wk.heap.size = H + 3) := hz10
  have bK : Hid (Boxed Wk (H + 1 + 1) 3 (.int .i64 0)) := bK0
  have bN : Hid (Boxed Wk (H + 1) 3 (.int .i64 n)) := bN0
  have cL : Hid (Wk.cell? ⟨H, 0, none⟩ = some (.slice al D.length cl)) := bL0.cell
  have hHs : Hid (w.heap.size + 2 ≤ H) := (by have := B9.out.size; have := hzH.out; omega : w.heap.size + 2 ≤ H)
  have B0k : Hid (Below (w.heap.size + 2) W0 Wk) := (by
    have h1 := B9.out; rw [hzH.out] at h1
    exact h1.trans (B10.mono hHs.out) : Below (w.heap.size + 2) W0 Wk)
  have cS : Hid (Wk.cell? ⟨w.heap.size, 0, none⟩ = some (.int .i64 stop)) := (B0k.out.cell (p := ⟨w.heap.size, 0, none⟩) (show w.heap.size < _ by omega)).trans bS.out.cell
  have cR : Hid (Wk.cell? ⟨w.heap.size + 1, 0, none⟩ = some (.bool false)) := (B0k.out.cell (p := ⟨w.heap.size + 1, 0, none⟩) (show w.heap.size + 1 < _ by omega)).trans bR.out.cell
  have fR : Hid (Wk.frozen? ⟨w.heap.size + 1, 0, none⟩ = false) := (B0k.out.frozen (p := ⟨w.heap.size + 1, 0, none⟩) (show w.heap.size + 1 < _ by omega)).trans bR.out.frozen
  have cD : Hid (D ≠ [] → ∃ b off, al = some ⟨b, off, none⟩ ∧ b < H ∧ ∀ i, i < D.length → Wk.cell? ⟨b, off + i, none⟩ = some (.int .i64 ((D.getD i 0 : Nat) : Int))) := fun hne => by
    obtain ⟨b, off, e, hb, hc⟩ := hR.out hne
    rw [hH] at hb
    exact ⟨b, off, e, hb, fun i hi => (B10.cell (p := ⟨b, off + i, none⟩) hb).trans (hc i hi)⟩
  have B0w : Hid (Below w.heap.size w Wk) := hb0.out.trans (B0k.out.mono (by omega))
  clear bL0 bN0 bK0 B10 hz10 hH hR B9
  refine' wpIn_rangeFunc_ownG rfl (by decide) (gf := 29) (lb := #[.pointer (some ⟨H + 1, 0, none⟩)]) rfl trivial (enters_of Tryd.func29 (by kernel_rfl) rfl)
    (dvs_stops Fence.wide 4 trivial rfl (by decide) (H + 1) (H + 1 + 1) n s hsH.out Wk (by omega) (by rw [hzK.out]; omega) bN.out.cell) belowK_t (belowK_b (by rw [hzK.out]; omega)) (Below.refl _ _) (fun _ => rfl)
    (fun pre W => (Boxed W (H + 1 + 1) 3 (.int .i64 (pre.length : Int)) ∧ pre <+: D) ∧ Below (H + 1 + 1) Wk W)
    (fun c pre W => (c = .ret ∧ ¬ pre <+: D) ∨ (c = .exit 0 ∧ (Boxed W (H + 1 + 1) 3 (.int .i64 (pre.length : Int)) ∧ pre <+: D ∧ (pre.length : Int) = stop) ∧ Below (H + 1 + 1) Wk W))
    (OwnFrom.and (Own.from (fun s A B row hs hg hr => ⟨boxed_own _ _ (fun pre : List Nat => .int .i64 (pre.length : Int)) s A B row hs.1 hg hr, hs.2⟩) _) (ownFrom_below (by rw [hzK.out]; omega) (by rw [hzK.out]; omega)))
    (fun c s A B row hs hg hr => ?ix)
    ⟨⟨bK.out, List.nil_prefix⟩, Below.refl _ _⟩
    _ ?assign ?body ?done ?stop
  case assign =>
    intro l x W K hK
    gi_wp2
    exact hK
  case ix =>
    rcases hs with h | ⟨hc, ⟨h1, h2, h3⟩, h4⟩
    · exact .inl h
    · exact .inr ⟨hc, ⟨h1.kept hg (fun e' => by obtain ⟨_, o, ho, hcl⟩ := hr _ e'.symm; rw [show A.heap[H + 1 + 1]? = _ from h1] at ho; cases ho; cases hcl), h2, h3⟩, ownFrom_below (β := List Nat) (n₀ := H + 1 + 1) (B := Wk.heap.size) (by rw [hzK.out]; omega) (by rw [hzK.out]; omega) s A B row h4 hg hr⟩
  case body =>
    rintro l pre x W ⟨⟨hb, hp⟩, hB⟩ hlt
    have BX : Below (H + 1 + 1) Wk W := hB
    have ck := hb.cell
    have fk := hb.frozen
    have cLW : W.cell? ⟨H, 0, none⟩ = some (.slice al D.length cl) := (BX.cell (p := ⟨H, 0, none⟩) (show H < _ by omega)).trans cL.out
    have cSW : W.cell? ⟨w.heap.size, 0, none⟩ = some (.int .i64 stop) := (BX.cell (p := ⟨w.heap.size, 0, none⟩) (show w.heap.size < _ by have := hHs.out; omega)).trans cS.out
    have cRW : W.cell? ⟨w.heap.size + 1, 0, none⟩ = some (.bool false) := (BX.cell (p := ⟨w.heap.size + 1, 0, none⟩) (show w.heap.size + 1 < _ by have := hHs.out; omega)).trans cR.out
    have fRW : W.frozen? ⟨w.heap.size + 1, 0, none⟩ = false := (BX.frozen (p := ⟨w.heap.size + 1, 0, none⟩) (show w.heap.size + 1 < _ by have := hHs.out; omega)).trans fR.out
    have hpH : Hid (pre <+: D) := hp
    have hbH : Hid (Boxed W (H + 1 + 1) 3 (.int .i64 (pre.length : Int))) := hb
    have hBH : Hid (Below (H + 1 + 1) Wk W) := hB
    have hsn : Hid (((pre ++ [x]).length : Int) = (pre.length : Int) + 1) := (by simp : ((pre ++ [x]).length : Int) = (pre.length : Int) + 1)
    have hlt5 : pre.length ≤ 5000 := by rw [hDH.out] at hlt; omega
    have hgone : Hid (KeepsFrom Wk.heap.size W (W.setCell ⟨w.heap.size + 1, 0, none⟩ (.bool false))) := (KeepsOthers.setCell W ⟨w.heap.size + 1, 0, none⟩ (.bool false)).from _
    clear hp hb hB BX hlt
    by_cases hpx : pre ++ [x] <+: D
    · have hlen : pre.length < D.length := len_pre hpx
      have hne : D ≠ [] := by intro e; rw [e] at hlen; simp at hlen
      obtain ⟨b, off, rfl, hbH2, hcell⟩ := cD.out hne
      have hx : D.getD pre.length 0 = x := by
        obtain ⟨r, hr⟩ := hpx
        rw [← hr]; simp [List.getD]
      have cx : W.cell? ⟨b, off + pre.length, none⟩ = some (.int .i64 (x : Int)) := by
        have h1 := hcell pre.length hlen
        rw [hx] at h1
        exact (hBH.out.cell (p := ⟨b, off + pre.length, none⟩) (show b < _ by omega)).trans h1
      have g1 : decide ((D.length : Int) ≤ (pre.length : Int)) = false := decide_eq_false (by omega)
      have g2 : ¬ D.length ≤ pre.length := by omega
      have g3 : (pre.length : Int) < (D.length : Int) := by omega
      have hpxH : Hid (pre ++ [x] <+: D) := hpx
      clear hcell hpx hx hne
      have cS2 : (W.setCell ⟨H + 1 + 1, 0, none⟩ (.int .i64 ((pre.length : Int) + 1))).cell? ⟨w.heap.size, 0, none⟩ = some (.int .i64 stop) := (World.cell?_setCell_far W ⟨H + 1 + 1, 0, none⟩ ⟨w.heap.size, 0, none⟩ _ (show H + 1 + 1 ≠ w.heap.size by have := hHs.out; omega)).trans cSW
      by_cases hst : (pre.length : Int) + 1 = stop
      · have hst1 : ((pre.length : Int) + 1 == stop) = true := beq_iff_eq.2 hst
        have hstH : Hid ((pre.length : Int) + 1 = stop) := hst
        clear hst
        gi_wp2
        have hb2 : Boxed (W.setCell ⟨H + 1 + 1, 0, none⟩ (.int .i64 ((pre.length : Int) + 1))) (H + 1 + 1) 3 (.int .i64 ((pre ++ [x]).length : Int)) := by rw [hsn.out]; exact hbH.out.set _
        exact ⟨(KeepsOthers.setCell _ _ _).from _, .inr ⟨rfl, ⟨hb2, hpxH.out, by rw [hsn.out]; exact hstH.out⟩, hBH.out.setCell (p := ⟨H + 1 + 1, 0, none⟩) (Nat.le_refl _) _⟩⟩
      · have hst1 : ((pre.length : Int) + 1 == stop) = false := beq_eq_false_iff_ne.2 hst
        clear hst
        gi_wp2
        have hb2 : Boxed (W.setCell ⟨H + 1 + 1, 0, none⟩ (.int .i64 ((pre.length : Int) + 1))) (H + 1 + 1) 3 (.int .i64 ((pre ++ [x]).length : Int)) := by rw [hsn.out]; exact hbH.out.set _
        exact ⟨(KeepsOthers.setCell _ _ _).from _, (Below.refl _ W).setCell (p := ⟨H + 1 + 1, 0, none⟩) (Nat.le_refl _) _, ⟨⟨hb2, hpxH.out⟩, hBH.out.setCell (p := ⟨H + 1 + 1, 0, none⟩) (Nat.le_refl _) _⟩⟩
    · have hpxH : Hid (¬ pre ++ [x] <+: D) := hpx
      by_cases hge : D.length ≤ pre.length
      · have g1 : (D.length : Int) ≤ (pre.length : Int) := by omega
        clear hpx
        gi_wp2
        exact ⟨hgone.out, .inl ⟨rfl, hpxH.out⟩⟩
      · have g1 : decide ((D.length : Int) ≤ (pre.length : Int)) = false := decide_eq_false (by omega)
        have g3 : (pre.length : Int) < (D.length : Int) := by omega
        have hlen : pre.length < D.length := by omega
        have hne : D ≠ [] := by intro e; rw [e] at hlen; simp at hlen
        obtain ⟨b, off, rfl, hbH2, hcell⟩ := cD.out hne
        have hx : D.getD pre.length 0 ≠ x := fun e => hpx (by
          obtain ⟨r, hr⟩ := hpH.out
          have hl : r ≠ [] := by intro e2; rw [e2, List.append_nil] at hr; rw [hr] at hlen; omega
          obtain ⟨y, r2, rfl⟩ := List.exists_cons_of_ne_nil hl
          have : D.getD pre.length 0 = y := by rw [← hr]; simp [List.getD]
          rw [this] at e
          subst e
          exact ⟨r2, by rw [← hr]; simp⟩)
        have cx : W.cell? ⟨b, off + pre.length, none⟩ = some (.int .i64 ((D.getD pre.length 0 : Nat) : Int)) := (hBH.out.cell (p := ⟨b, off + pre.length, none⟩) (show b < _ by omega)).trans (hcell pre.length hlen)
        generalize D.getD pre.length 0 = z at hx cx
        have q1 : ((x : Int) == (z : Int)) = false := beq_eq_false_iff_ne.2 (by omega)
        have q2 : ((x : Int) != (z : Int)) = true := by simp [bne, q1]
        clear hcell hpx hx hne
        gi_wp2
        exact ⟨hgone.out, .inl ⟨rfl, hpxH.out⟩⟩
  case done =>
    rintro D1 ys W hD1 hys ⟨⟨hb, hp⟩, hB⟩ hK
    obtain rfl : D = ys := (hys.trans hDH.out).symm
    clear hys
    have BX : Below (H + 1 + 1) Wk W := hB
    have ck := hb.cell
    have fk := hb.frozen
    have cLW : W.cell? ⟨H, 0, none⟩ = some (.slice al D.length cl) := (BX.cell (p := ⟨H, 0, none⟩) (show H < _ by omega)).trans cL.out
    have cSW : W.cell? ⟨w.heap.size, 0, none⟩ = some (.int .i64 stop) := (BX.cell (p := ⟨w.heap.size, 0, none⟩) (show w.heap.size < _ by have := hHs.out; omega)).trans cS.out
    have cRW : W.cell? ⟨w.heap.size + 1, 0, none⟩ = some (.bool false) := (BX.cell (p := ⟨w.heap.size + 1, 0, none⟩) (show w.heap.size + 1 < _ by have := hHs.out; omega)).trans cR.out
    have fRW : W.frozen? ⟨w.heap.size + 1, 0, none⟩ = false := (BX.frozen (p := ⟨w.heap.size + 1, 0, none⟩) (show w.heap.size + 1 < _ by have := hHs.out; omega)).trans fR.out
    have hbH : Hid (Boxed W (H + 1 + 1) 3 (.int .i64 (D.length : Int))) := hb
    have hBH : Hid (Below (H + 1 + 1) Wk W) := hB
    have hKH : Hid (W.heap[D1]? = some (.deferred (some []))) := hK
    clear hb hB hK BX hp
    gi_wp2_with fail
    clear ck fk cLW cSW cRW fRW
    have hb2 : Hid (Boxed (W.setCell ⟨H + 1 + 1, 0, none⟩ (.int .i64 0)) (H + 1 + 1) 3 (.int .i64 0)) := hbH.out.set _
    have hB2 : Hid (Below (H + 1 + 1) Wk (W.setCell ⟨H + 1 + 1, 0, none⟩ (.int .i64 0))) := hBH.out.setCell (p := ⟨H + 1 + 1, 0, none⟩) (Nat.le_refl _) _
    have hK2 : Hid ((W.setCell ⟨H + 1 + 1, 0, none⟩ (.int .i64 0)).heap[D1]? = some (.deferred (some []))) := (KeepsOthers.setCell _ _ _).same D1 _ hKH.out rfl
    generalize W.setCell ⟨H + 1 + 1, 0, none⟩ (.int .i64 0) = W2 at hb2 hB2 hK2 ⊢
    clear hbH hBH hKH
    have hz2 : Hid (H + 3 ≤ W2.heap.size) := (by have := hB2.out.size; have := hzK.out; omega : H + 3 ≤ W2.heap.size)
    have hD2 : Hid (D1 < W2.heap.size) := (Array.getElem?_eq_some_iff.1 hK2.out).1
    have cN2 : Hid (W2.cell? ⟨H + 1, 0, none⟩ = some (.int .i64 n)) := (hB2.out.cell (p := ⟨H + 1, 0, none⟩) (show H + 1 < _ by omega)).trans bN.out.cell
    refine' wpIn_rangeFunc_ownG rfl (by decide) (gf := 29) (lb := #[.pointer (some ⟨H + 1, 0, none⟩)]) rfl trivial (enters_of Tryd.func29 (by kernel_rfl) rfl)
      (dvs_stops Fence.wide 4 trivial rfl (by decide) (H + 1) (H + 1 + 1) n s hsH.out W2 (by omega) (by have := hz2.out; omega) cN2.out) belowK_t (belowK_b (by have := hz2.out; omega)) (Below.refl _ _) (fun _ => rfl)
      (fun pre W => (Boxed W (H + 1 + 1) 3 (.int .i64 (pre.length : Int)) ∧ pre <+: D) ∧ (Below (H + 1 + 1) W2 W ∧ W.heap[D1]? = some (.deferred (some []))))
      (fun c pre _ => c = .ret ∧ ¬ pre <+: D)
      (OwnFrom.and (Own.from (fun s A B row hs hg hr => ⟨boxed_own _ _ (fun pre : List Nat => .int .i64 (pre.length : Int)) s A B row hs.1 hg hr, hs.2⟩) _) (OwnFrom.and (ownFrom_below (by have := hz2.out; omega) (by have := hz2.out; omega)) (own_blk _ _ _ hD2.out)))
      (fun _ _ _ _ _ hs _ _ => hs)
      ⟨⟨hb2.out, List.nil_prefix⟩, Below.refl _ _, hK2.out⟩
      _ ?assign2 ?body2 ?done2 ?stop2
    case assign2 =>
      intro l x W K hK
      gi_wp2
      exact hK
    case body2 =>
      rintro l pre x W ⟨⟨hb, hp⟩, hB, hKd⟩ hlt
      have BX : Below (H + 1 + 1) Wk W := hB2.out.trans hB
      have ck := hb.cell
      have fk := hb.frozen
      have cLW : W.cell? ⟨H, 0, none⟩ = some (.slice al D.length cl) := (BX.cell (p := ⟨H, 0, none⟩) (show H < _ by omega)).trans cL.out
      have cSW : W.cell? ⟨w.heap.size, 0, none⟩ = some (.int .i64 stop) := (BX.cell (p := ⟨w.heap.size, 0, none⟩) (show w.heap.size < _ by have := hHs.out; omega)).trans cS.out
      have cRW : W.cell? ⟨w.heap.size + 1, 0, none⟩ = some (.bool false) := (BX.cell (p := ⟨w.heap.size + 1, 0, none⟩) (show w.heap.size + 1 < _ by have := hHs.out; omega)).trans cR.out
      have fRW : W.frozen? ⟨w.heap.size + 1, 0, none⟩ = false := (BX.frozen (p := ⟨w.heap.size + 1, 0, none⟩) (show w.heap.size + 1 < _ by have := hHs.out; omega)).trans fR.out
      have hpH : Hid (pre <+: D) := hp
      have hbH : Hid (Boxed W (H + 1 + 1) 3 (.int .i64 (pre.length : Int))) := hb
      have hBH : Hid (Below (H + 1 + 1) W2 W) := hB
      have hsn : Hid (((pre ++ [x]).length : Int) = (pre.length : Int) + 1) := (by simp : ((pre ++ [x]).length : Int) = (pre.length : Int) + 1)
      have hlt5 : pre.length ≤ 5000 := by rw [hDH.out] at hlt; omega
      have hgone : Hid (KeepsFrom W2.heap.size W (W.setCell ⟨w.heap.size + 1, 0, none⟩ (.bool false))) := (KeepsOthers.setCell W ⟨w.heap.size + 1, 0, none⟩ (.bool false)).from _
      clear hp hb hB BX hlt
      by_cases hpx : pre ++ [x] <+: D
      · have hlen : pre.length < D.length := len_pre hpx
        have hne : D ≠ [] := by intro e; rw [e] at hlen; simp at hlen
        obtain ⟨b, off, rfl, hbH2, hcell⟩ := cD.out hne
        have hx : D.getD pre.length 0 = x := by
          obtain ⟨r, hr⟩ := hpx
          rw [← hr]; simp [List.getD]
        have cx : W.cell? ⟨b, off + pre.length, none⟩ = some (.int .i64 (x : Int)) := by
          have h1 := hcell pre.length hlen
          rw [hx] at h1
          exact ((hB2.out.trans hBH.out).cell (p := ⟨b, off + pre.length, none⟩) (show b < _ by omega)).trans h1
        have g1 : decide ((D.length : Int) ≤ (pre.length : Int)) = false := decide_eq_false (by omega)
        have g2 : ¬ D.length ≤ pre.length := by omega
        have g3 : (pre.length : Int) < (D.length : Int) := by omega
        have hpxH : Hid (pre ++ [x] <+: D) := hpx
        clear hcell hpx hx hne
        gi_wp2
        have hb2 : Boxed (W.setCell ⟨H + 1 + 1, 0, none⟩ (.int .i64 ((pre.length : Int) + 1))) (H + 1 + 1) 3 (.int .i64 ((pre ++ [x]).length : Int)) := by rw [hsn.out]; exact hbH.out.set _
        exact ⟨(KeepsOthers.setCell _ _ _).from _, (Below.refl _ W).setCell (p := ⟨H + 1 + 1, 0, none⟩) (Nat.le_refl _) _, ⟨⟨hb2, hpxH.out⟩, hBH.out.setCell (p := ⟨H + 1 + 1, 0, none⟩) (Nat.le_refl _) _, (KeepsOthers.setCell _ _ _).same D1 _ hKd rfl⟩⟩
      · have hpxH : Hid (¬ pre ++ [x] <+: D) := hpx
        by_cases hge : D.length ≤ pre.length
        · have g1 : (D.length : Int) ≤ (pre.length : Int) := by omega
          clear hpx
          gi_wp2
          exact ⟨hgone.out, rfl, hpxH.out⟩
        · have g1 : decide ((D.length : Int) ≤ (pre.length : Int)) = false := decide_eq_false (by omega)
          have g3 : (pre.length : Int) < (D.length : Int) := by omega
          have hlen : pre.length < D.length := by omega
          have hne : D ≠ [] := by intro e; rw [e] at hlen; simp at hlen
          obtain ⟨b, off, rfl, hbH2, hcell⟩ := cD.out hne
          have hx : D.getD pre.length 0 ≠ x := fun e => hpx (by
            obtain ⟨r, hr⟩ := hpH.out
            have hl : r ≠ [] := by intro e2; rw [e2, List.append_nil] at hr; rw [hr] at hlen; omega
            obtain ⟨y, r2, rfl⟩ := List.exists_cons_of_ne_nil hl
            have : D.getD pre.length 0 = y := by rw [← hr]; simp [List.getD]
            rw [this] at e
            subst e
            exact ⟨r2, by rw [← hr]; simp⟩)
          have cx : W.cell? ⟨b, off + pre.length, none⟩ = some (.int .i64 ((D.getD pre.length 0 : Nat) : Int)) := ((hB2.out.trans hBH.out).cell (p := ⟨b, off + pre.length, none⟩) (show b < _ by omega)).trans (hcell pre.length hlen)
          generalize D.getD pre.length 0 = z at hx cx
          have q1 : ((x : Int) == (z : Int)) = false := beq_eq_false_iff_ne.2 (by omega)
          have q2 : ((x : Int) != (z : Int)) = true := by simp [bne, q1]
          clear hcell hpx hx hne
          gi_wp2
          exact ⟨hgone.out, rfl, hpxH.out⟩
    case done2 =>
      rintro D2 ys W hD2' hys ⟨⟨hb, hp⟩, hB, hK1⟩ hK3
      obtain rfl : D = ys := (hys.trans hDH.out).symm
      clear hys
      have BX : Below (H + 1 + 1) Wk W := hB2.out.trans hB
      have ck := hb.cell
      have fk := hb.frozen
      have cLW : W.cell? ⟨H, 0, none⟩ = some (.slice al D.length cl) := (BX.cell (p := ⟨H, 0, none⟩) (show H < _ by omega)).trans cL.out
      have cSW : W.cell? ⟨w.heap.size, 0, none⟩ = some (.int .i64 stop) := (BX.cell (p := ⟨w.heap.size, 0, none⟩) (show w.heap.size < _ by have := hHs.out; omega)).trans cS.out
      have cRW : W.cell? ⟨w.heap.size + 1, 0, none⟩ = some (.bool false) := (BX.cell (p := ⟨w.heap.size + 1, 0, none⟩) (show w.heap.size + 1 < _ by have := hHs.out; omega)).trans cR.out
      have fRW : W.frozen? ⟨w.heap.size + 1, 0, none⟩ = false := (BX.frozen (p := ⟨w.heap.size + 1, 0, none⟩) (show w.heap.size + 1 < _ by have := hHs.out; omega)).trans fR.out
      gi_wp2
      have hs2 := hHs.out
      have d1 := hD2.out
      have kA := (KeepsOthers.setCell W ⟨w.heap.size + 1, 0, none⟩ (.bool true)).same D2 _ hK3 rfl
      have kB := (KeepsOthers.setCell W ⟨w.heap.size + 1, 0, none⟩ (.bool true)).same D1 _ hK1 rfl
      have kC : ((W.setCell ⟨w.heap.size + 1, 0, none⟩ (.bool true)).putObj D2 (.deferred none)).heap[D1]? = some (.deferred (some [])) := (World.putObj_heap_other (by omega)).trans kB
      refine ⟨by simp, .inl ⟨_, _, rfl, run_takeDeferred kA, ?_⟩⟩
      refine ⟨by simp, .inl ⟨_, _, rfl, run_takeDeferred kC, ?_⟩⟩
      have e1 : (W.setCell ⟨w.heap.size + 1, 0, none⟩ (.bool true)).cell? ⟨w.heap.size + 1, 0, none⟩ = some (.bool true) := World.cell?_setCell_same' _ _ _ (by rw [cRW]; rfl)
      have e2 := cell_kept e1 (grownBy_putObj' _ D2 (.deferred none)) (fun r e => by cases e; exact ⟨_, kA, rfl⟩)
      have e3 := cell_kept e2 (grownBy_putObj' _ D1 (.deferred none)) (fun r e => by cases e; exact ⟨_, kC, rfl⟩)
      refine ⟨.bool true, ?_, rfl, ?_⟩
      · simp [results, Tryd.f5, go_sem, e3]
      · have f1 : Below w.heap.size w W := B0w.out.trans (BX.mono (by omega))
        have f2 := f1.setCell (p := ⟨w.heap.size + 1, 0, none⟩) (show w.heap.size ≤ w.heap.size + 1 by omega) (.bool true)
        have f3 := f2.trans (belowK_b (w := w) (Nat.le_refl _) _ D2 _ (.deferred none) (by have := hz2.out; omega) kA rfl rfl)
        exact f3.trans (belowK_b (w := w) (Nat.le_refl _) _ D1 _ (.deferred none) (by have := hD1; have := hzK.out; omega) kC rfl rfl)
    case stop2 =>
      rintro D2 c pre W _ hpre ⟨_, hno⟩ _
      exact (hno (by rw [← hDH.out]; exact hpre)).elim
  case stop =>
    rintro D1 c pre W hD1 hpre hix hK
    rcases hix with ⟨rfl, hno⟩ | ⟨rfl, ⟨hb, hp, hst⟩, hB⟩
    · exact (hno (by rw [← hDH.out]; exact hpre)).elim
    · have BX : Below (H + 1 + 1) Wk W := hB
      have ck := hb.cell
      have fk := hb.frozen
      have cLW : W.cell? ⟨H, 0, none⟩ = some (.slice al D.length cl) := (BX.cell (p := ⟨H, 0, none⟩) (show H < _ by omega)).trans cL.out
      have cSW : W.cell? ⟨w.heap.size, 0, none⟩ = some (.int .i64 stop) := (BX.cell (p := ⟨w.heap.size, 0, none⟩) (show w.heap.size < _ by have := hHs.out; omega)).trans cS.out
      have cRW : W.cell? ⟨w.heap.size + 1, 0, none⟩ = some (.bool false) := (BX.cell (p := ⟨w.heap.size + 1, 0, none⟩) (show w.heap.size + 1 < _ by have := hHs.out; omega)).trans cR.out
      have fRW : W.frozen? ⟨w.heap.size + 1, 0, none⟩ = false := (BX.frozen (p := ⟨w.heap.size + 1, 0, none⟩) (show w.heap.size + 1 < _ by have := hHs.out; omega)).trans fR.out
      have hbH : Hid (Boxed W (H + 1 + 1) 3 (.int .i64 (pre.length : Int))) := hb
      have hBH : Hid (Below (H + 1 + 1) Wk W) := hB
      have hKH : Hid (W.heap[D1]? = some (.deferred (some []))) := hK
      clear hb hB hK BX hp
      have r1 : ((pre.length : Int) == stop) = true := beq_iff_eq.2 hst
      have r2 : ((pre.length : Int) != stop) = false := by simp [bne, r1]
      clear hst hpre
      by_cases hpe : pre.length = D.length
      · have r3 : ((pre.length : Int) == (D.length : Int)) = true := beq_iff_eq.2 (by omega)
        have r4 : ((pre.length : Int) != (D.length : Int)) = false := by simp [bne, r3]
        clear hpe
        gi_wp2_with fail
        clear ck fk cLW cSW cRW fRW r1 r2 r3 r4
        have hb2 : Hid (Boxed (W.setCell ⟨H + 1 + 1, 0, none⟩ (.int .i64 0)) (H + 1 + 1) 3 (.int .i64 0)) := hbH.out.set _
        have hB2 : Hid (Below (H + 1 + 1) Wk (W.setCell ⟨H + 1 + 1, 0, none⟩ (.int .i64 0))) := hBH.out.setCell (p := ⟨H + 1 + 1, 0, none⟩) (Nat.le_refl _) _
        have hK2 : Hid ((W.setCell ⟨H + 1 + 1, 0, none⟩ (.int .i64 0)).heap[D1]? = some (.deferred (some []))) := (KeepsOthers.setCell _ _ _).same D1 _ hKH.out rfl
        generalize W.setCell ⟨H + 1 + 1, 0, none⟩ (.int .i64 0) = W2 at hb2 hB2 hK2 ⊢
        clear hbH hBH hKH
        have hz2 : Hid (H + 3 ≤ W2.heap.size) := (by have := hB2.out.size; have := hzK.out; omega : H + 3 ≤ W2.heap.size)
        have hD2 : Hid (D1 < W2.heap.size) := (Array.getElem?_eq_some_iff.1 hK2.out).1
        have cN2 : Hid (W2.cell? ⟨H + 1, 0, none⟩ = some (.int .i64 n)) := (hB2.out.cell (p := ⟨H + 1, 0, none⟩) (show H + 1 < _ by omega)).trans bN.out.cell
        refine' wpIn_rangeFunc_ownG rfl (by decide) (gf := 29) (lb := #[.pointer (some ⟨H + 1, 0, none⟩)]) rfl trivial (enters_of Tryd.func29 (by kernel_rfl) rfl)
          (dvs_stops Fence.wide 4 trivial rfl (by decide) (H + 1) (H + 1 + 1) n s hsH.out W2 (by omega) (by have := hz2.out; omega) cN2.out) belowK_t (belowK_b (by have := hz2.out; omega)) (Below.refl _ _) (fun _ => rfl)
          (fun pre W => (Boxed W (H + 1 + 1) 3 (.int .i64 (pre.length : Int)) ∧ pre <+: D) ∧ (Below (H + 1 + 1) W2 W ∧ W.heap[D1]? = some (.deferred (some []))))
          (fun c pre _ => c = .ret ∧ ¬ pre <+: D)
          (OwnFrom.and (Own.from (fun s A B row hs hg hr => ⟨boxed_own _ _ (fun pre : List Nat => .int .i64 (pre.length : Int)) s A B row hs.1 hg hr, hs.2⟩) _) (OwnFrom.and (ownFrom_below (by have := hz2.out; omega) (by have := hz2.out; omega)) (own_blk _ _ _ hD2.out)))
          (fun _ _ _ _ _ hs _ _ => hs)
          ⟨⟨hb2.out, List.nil_prefix⟩, Below.refl _ _, hK2.out⟩
          _ ?assign2 ?body2 ?done2 ?stop2
        case assign2 =>
          intro l x W K hK
          gi_wp2
          exact hK
        case body2 =>
          rintro l pre x W ⟨⟨hb, hp⟩, hB, hKd⟩ hlt
          have BX : Below (H + 1 + 1) Wk W := hB2.out.trans hB
          have ck := hb.cell
          have fk := hb.frozen
          have cLW : W.cell? ⟨H, 0, none⟩ = some (.slice al D.length cl) := (BX.cell (p := ⟨H, 0, none⟩) (show H < _ by omega)).trans cL.out
          have cSW : W.cell? ⟨w.heap.size, 0, none⟩ = some (.int .i64 stop) := (BX.cell (p := ⟨w.heap.size, 0, none⟩) (show w.heap.size < _ by have := hHs.out; omega)).trans cS.out
          have cRW : W.cell? ⟨w.heap.size + 1, 0, none⟩ = some (.bool false) := (BX.cell (p := ⟨w.heap.size + 1, 0, none⟩) (show w.heap.size + 1 < _ by have := hHs.out; omega)).trans cR.out
          have fRW : W.frozen? ⟨w.heap.size + 1, 0, none⟩ = false := (BX.frozen (p := ⟨w.heap.size + 1, 0, none⟩) (show w.heap.size + 1 < _ by have := hHs.out; omega)).trans fR.out
          have hpH : Hid (pre <+: D) := hp
          have hbH : Hid (Boxed W (H + 1 + 1) 3 (.int .i64 (pre.length : Int))) := hb
          have hBH : Hid (Below (H + 1 + 1) W2 W) := hB
          have hsn : Hid (((pre ++ [x]).length : Int) = (pre.length : Int) + 1) := (by simp : ((pre ++ [x]).length : Int) = (pre.length : Int) + 1)
          have hlt5 : pre.length ≤ 5000 := by rw [hDH.out] at hlt; omega
          have hgone : Hid (KeepsFrom W2.heap.size W (W.setCell ⟨w.heap.size + 1, 0, none⟩ (.bool false))) := (KeepsOthers.setCell W ⟨w.heap.size + 1, 0, none⟩ (.bool false)).from _
          clear hp hb hB BX hlt
          by_cases hpx : pre ++ [x] <+: D
          · have hlen : pre.length < D.length := len_pre hpx
            have hne : D ≠ [] := by intro e; rw [e] at hlen; simp at hlen
            obtain ⟨b, off, rfl, hbH2, hcell⟩ := cD.out hne
            have hx : D.getD pre.length 0 = x := by
              obtain ⟨r, hr⟩ := hpx
              rw [← hr]; simp [List.getD]
            have cx : W.cell? ⟨b, off + pre.length, none⟩ = some (.int .i64 (x : Int)) := by
              have h1 := hcell pre.length hlen
              rw [hx] at h1
              exact ((hB2.out.trans hBH.out).cell (p := ⟨b, off + pre.length, none⟩) (show b < _ by omega)).trans h1
            have g1 : decide ((D.length : Int) ≤ (pre.length : Int)) = false := decide_eq_false (by omega)
            have g2 : ¬ D.length ≤ pre.length := by omega
            have g3 : (pre.length : Int) < (D.length : Int) := by omega
            have hpxH : Hid (pre ++ [x] <+: D) := hpx
            clear hcell hpx hx hne
            gi_wp2
            have hb2 : Boxed (W.setCell ⟨H + 1 + 1, 0, none⟩ (.int .i64 ((pre.length : Int) + 1))) (H + 1 + 1) 3 (.int .i64 ((pre ++ [x]).length : Int)) := by rw [hsn.out]; exact hbH.out.set _
            exact ⟨(KeepsOthers.setCell _ _ _).from _, (Below.refl _ W).setCell (p := ⟨H + 1 + 1, 0, none⟩) (Nat.le_refl _) _, ⟨⟨hb2, hpxH.out⟩, hBH.out.setCell (p := ⟨H + 1 + 1, 0, none⟩) (Nat.le_refl _) _, (KeepsOthers.setCell _ _ _).same D1 _ hKd rfl⟩⟩
          · have hpxH : Hid (¬ pre ++ [x] <+: D) := hpx
            by_cases hge : D.length ≤ pre.length
            · have g1 : (D.length : Int) ≤ (pre.length : Int) := by omega
              clear hpx
              gi_wp2
              exact ⟨hgone.out, rfl, hpxH.out⟩
            · have g1 : decide ((D.length : Int) ≤ (pre.length : Int)) = false := decide_eq_false (by omega)
              have g3 : (pre.length : Int) < (D.length : Int) := by omega
              have hlen : pre.length < D.length := by omega
              have hne : D ≠ [] := by intro e; rw [e] at hlen; simp at hlen
              obtain ⟨b, off, rfl, hbH2, hcell⟩ := cD.out hne
              have hx : D.getD pre.length 0 ≠ x := fun e => hpx (by
                obtain ⟨r, hr⟩ := hpH.out
                have hl : r ≠ [] := by intro e2; rw [e2, List.append_nil] at hr; rw [hr] at hlen; omega
                obtain ⟨y, r2, rfl⟩ := List.exists_cons_of_ne_nil hl
                have : D.getD pre.length 0 = y := by rw [← hr]; simp [List.getD]
                rw [this] at e
                subst e
                exact ⟨r2, by rw [← hr]; simp⟩)
              have cx : W.cell? ⟨b, off + pre.length, none⟩ = some (.int .i64 ((D.getD pre.length 0 : Nat) : Int)) := ((hB2.out.trans hBH.out).cell (p := ⟨b, off + pre.length, none⟩) (show b < _ by omega)).trans (hcell pre.length hlen)
              generalize D.getD pre.length 0 = z at hx cx
              have q1 : ((x : Int) == (z : Int)) = false := beq_eq_false_iff_ne.2 (by omega)
              have q2 : ((x : Int) != (z : Int)) = true := by simp [bne, q1]
              clear hcell hpx hx hne
              gi_wp2
              exact ⟨hgone.out, rfl, hpxH.out⟩
        case done2 =>
          rintro D2 ys W hD2' hys ⟨⟨hb, hp⟩, hB, hK1⟩ hK3
          obtain rfl : D = ys := (hys.trans hDH.out).symm
          clear hys
          have BX : Below (H + 1 + 1) Wk W := hB2.out.trans hB
          have ck := hb.cell
          have fk := hb.frozen
          have cLW : W.cell? ⟨H, 0, none⟩ = some (.slice al D.length cl) := (BX.cell (p := ⟨H, 0, none⟩) (show H < _ by omega)).trans cL.out
          have cSW : W.cell? ⟨w.heap.size, 0, none⟩ = some (.int .i64 stop) := (BX.cell (p := ⟨w.heap.size, 0, none⟩) (show w.heap.size < _ by have := hHs.out; omega)).trans cS.out
          have cRW : W.cell? ⟨w.heap.size + 1, 0, none⟩ = some (.bool false) := (BX.cell (p := ⟨w.heap.size + 1, 0, none⟩) (show w.heap.size + 1 < _ by have := hHs.out; omega)).trans cR.out
          have fRW : W.frozen? ⟨w.heap.size + 1, 0, none⟩ = false := (BX.frozen (p := ⟨w.heap.size + 1, 0, none⟩) (show w.heap.size + 1 < _ by have := hHs.out; omega)).trans fR.out
          gi_wp2
          have hs2 := hHs.out
          have d1 := hD2.out
          have kA := (KeepsOthers.setCell W ⟨w.heap.size + 1, 0, none⟩ (.bool true)).same D2 _ hK3 rfl
          have kB := (KeepsOthers.setCell W ⟨w.heap.size + 1, 0, none⟩ (.bool true)).same D1 _ hK1 rfl
          have kC : ((W.setCell ⟨w.heap.size + 1, 0, none⟩ (.bool true)).putObj D2 (.deferred none)).heap[D1]? = some (.deferred (some [])) := (World.putObj_heap_other (by omega)).trans kB
          refine ⟨by simp, .inl ⟨_, _, rfl, run_takeDeferred kA, ?_⟩⟩
          refine ⟨by simp, .inl ⟨_, _, rfl, run_takeDeferred kC, ?_⟩⟩
          have e1 : (W.setCell ⟨w.heap.size + 1, 0, none⟩ (.bool true)).cell? ⟨w.heap.size + 1, 0, none⟩ = some (.bool true) := World.cell?_setCell_same' _ _ _ (by rw [cRW]; rfl)
          have e2 := cell_kept e1 (grownBy_putObj' _ D2 (.deferred none)) (fun r e => by cases e; exact ⟨_, kA, rfl⟩)
          have e3 := cell_kept e2 (grownBy_putObj' _ D1 (.deferred none)) (fun r e => by cases e; exact ⟨_, kC, rfl⟩)
          refine ⟨.bool true, ?_, rfl, ?_⟩
          · simp [results, Tryd.f5, go_sem, e3]
          · have f1 : Below w.heap.size w W := B0w.out.trans (BX.mono (by omega))
            have f2 := f1.setCell (p := ⟨w.heap.size + 1, 0, none⟩) (show w.heap.size ≤ w.heap.size + 1 by omega) (.bool true)
            have f3 := f2.trans (belowK_b (w := w) (Nat.le_refl _) _ D2 _ (.deferred none) (by have := hz2.out; omega) kA rfl rfl)
            exact f3.trans (belowK_b (w := w) (Nat.le_refl _) _ D1 _ (.deferred none) (by have := hD1; have := hzK.out; omega) kC rfl rfl)
        case stop2 =>
          rintro D2 c pre W _ hpre ⟨_, hno⟩ _
          exact (hno (by rw [← hDH.out]; exact hpre)).elim
      · have r3 : ((pre.length : Int) == (D.length : Int)) = false := beq_eq_false_iff_ne.2 (by omega)
        have r4 : ((pre.length : Int) != (D.length : Int)) = true := by simp [bne, r3]
        clear hpe
        gi_wp2_with fail
        clear ck fk cLW cSW cRW fRW r1 r2 r3 r4
        have hb2 : Hid (Boxed (W.setCell ⟨H + 1 + 1, 0, none⟩ (.int .i64 0)) (H + 1 + 1) 3 (.int .i64 0)) := hbH.out.set _
        have hB2 : Hid (Below (H + 1 + 1) Wk (W.setCell ⟨H + 1 + 1, 0, none⟩ (.int .i64 0))) := hBH.out.setCell (p := ⟨H + 1 + 1, 0, none⟩) (Nat.le_refl _) _
        have hK2 : Hid ((W.setCell ⟨H + 1 + 1, 0, none⟩ (.int .i64 0)).heap[D1]? = some (.deferred (some []))) := (KeepsOthers.setCell _ _ _).same D1 _ hKH.out rfl
        generalize W.setCell ⟨H + 1 + 1, 0, none⟩ (.int .i64 0) = W2 at hb2 hB2 hK2 ⊢
        clear hbH hBH hKH
        have hz2 : Hid (H + 3 ≤ W2.heap.size) := (by have := hB2.out.size; have := hzK.out; omega : H + 3 ≤ W2.heap.size)
        have hD2 : Hid (D1 < W2.heap.size) := (Array.getElem?_eq_some_iff.1 hK2.out).1
        have cN2 : Hid (W2.cell? ⟨H + 1, 0, none⟩ = some (.int .i64 n)) := (hB2.out.cell (p := ⟨H + 1, 0, none⟩) (show H + 1 < _ by omega)).trans bN.out.cell
        refine' wpIn_rangeFunc_ownG rfl (by decide) (gf := 29) (lb := #[.pointer (some ⟨H + 1, 0, none⟩)]) rfl trivial (enters_of Tryd.func29 (by kernel_rfl) rfl)
          (dvs_stops Fence.wide 4 trivial rfl (by decide) (H + 1) (H + 1 + 1) n s hsH.out W2 (by omega) (by have := hz2.out; omega) cN2.out) belowK_t (belowK_b (by have := hz2.out; omega)) (Below.refl _ _) (fun _ => rfl)
          (fun pre W => (Boxed W (H + 1 + 1) 3 (.int .i64 (pre.length : Int)) ∧ pre <+: D) ∧ (Below (H + 1 + 1) W2 W ∧ W.heap[D1]? = some (.deferred (some []))))
          (fun c pre _ => c = .ret ∧ ¬ pre <+: D)
          (OwnFrom.and (Own.from (fun s A B row hs hg hr => ⟨boxed_own _ _ (fun pre : List Nat => .int .i64 (pre.length : Int)) s A B row hs.1 hg hr, hs.2⟩) _) (OwnFrom.and (ownFrom_below (by have := hz2.out; omega) (by have := hz2.out; omega)) (own_blk _ _ _ hD2.out)))
          (fun _ _ _ _ _ hs _ _ => hs)
          ⟨⟨hb2.out, List.nil_prefix⟩, Below.refl _ _, hK2.out⟩
          _ ?assign2 ?body2 ?done2 ?stop2
        case assign2 =>
          intro l x W K hK
          gi_wp2
          exact hK
        case body2 =>
          rintro l pre x W ⟨⟨hb, hp⟩, hB, hKd⟩ hlt
          have BX : Below (H + 1 + 1) Wk W := hB2.out.trans hB
          have ck := hb.cell
          have fk := hb.frozen
          have cLW : W.cell? ⟨H, 0, none⟩ = some (.slice al D.length cl) := (BX.cell (p := ⟨H, 0, none⟩) (show H < _ by omega)).trans cL.out
          have cSW : W.cell? ⟨w.heap.size, 0, none⟩ = some (.int .i64 stop) := (BX.cell (p := ⟨w.heap.size, 0, none⟩) (show w.heap.size < _ by have := hHs.out; omega)).trans cS.out
          have cRW : W.cell? ⟨w.heap.size + 1, 0, none⟩ = some (.bool false) := (BX.cell (p := ⟨w.heap.size + 1, 0, none⟩) (show w.heap.size + 1 < _ by have := hHs.out; omega)).trans cR.out
          have fRW : W.frozen? ⟨w.heap.size + 1, 0, none⟩ = false := (BX.frozen (p := ⟨w.heap.size + 1, 0, none⟩) (show w.heap.size + 1 < _ by have := hHs.out; omega)).trans fR.out
          have hpH : Hid (pre <+: D) := hp
          have hbH : Hid (Boxed W (H + 1 + 1) 3 (.int .i64 (pre.length : Int))) := hb
          have hBH : Hid (Below (H + 1 + 1) W2 W) := hB
          have hsn : Hid (((pre ++ [x]).length : Int) = (pre.length : Int) + 1) := (by simp : ((pre ++ [x]).length : Int) = (pre.length : Int) + 1)
          have hlt5 : pre.length ≤ 5000 := by rw [hDH.out] at hlt; omega
          have hgone : Hid (KeepsFrom W2.heap.size W (W.setCell ⟨w.heap.size + 1, 0, none⟩ (.bool false))) := (KeepsOthers.setCell W ⟨w.heap.size + 1, 0, none⟩ (.bool false)).from _
          clear hp hb hB BX hlt
          by_cases hpx : pre ++ [x] <+: D
          · have hlen : pre.length < D.length := len_pre hpx
            have hne : D ≠ [] := by intro e; rw [e] at hlen; simp at hlen
            obtain ⟨b, off, rfl, hbH2, hcell⟩ := cD.out hne
            have hx : D.getD pre.length 0 = x := by
              obtain ⟨r, hr⟩ := hpx
              rw [← hr]; simp [List.getD]
            have cx : W.cell? ⟨b, off + pre.length, none⟩ = some (.int .i64 (x : Int)) := by
              have h1 := hcell pre.length hlen
              rw [hx] at h1
              exact ((hB2.out.trans hBH.out).cell (p := ⟨b, off + pre.length, none⟩) (show b < _ by omega)).trans h1
            have g1 : decide ((D.length : Int) ≤ (pre.length : Int)) = false := decide_eq_false (by omega)
            have g2 : ¬ D.length ≤ pre.length := by omega
            have g3 : (pre.length : Int) < (D.length : Int) := by omega
            have hpxH : Hid (pre ++ [x] <+: D) := hpx
            clear hcell hpx hx hne
            gi_wp2
            have hb2 : Boxed (W.setCell ⟨H + 1 + 1, 0, none⟩ (.int .i64 ((pre.length : Int) + 1))) (H + 1 + 1) 3 (.int .i64 ((pre ++ [x]).length : Int)) := by rw [hsn.out]; exact hbH.out.set _
            exact ⟨(KeepsOthers.setCell _ _ _).from _, (Below.refl _ W).setCell (p := ⟨H + 1 + 1, 0, none⟩) (Nat.le_refl _) _, ⟨⟨hb2, hpxH.out⟩, hBH.out.setCell (p := ⟨H + 1 + 1, 0, none⟩) (Nat.le_refl _) _, (KeepsOthers.setCell _ _ _).same D1 _ hKd rfl⟩⟩
          · have hpxH : Hid (¬ pre ++ [x] <+: D) := hpx
            by_cases hge : D.length ≤ pre.length
            · have g1 : (D.length : Int) ≤ (pre.length : Int) := by omega
              clear hpx
              gi_wp2
              exact ⟨hgone.out, rfl, hpxH.out⟩
            · have g1 : decide ((D.length : Int) ≤ (pre.length : Int)) = false := decide_eq_false (by omega)
              have g3 : (pre.length : Int) < (D.length : Int) := by omega
              have hlen : pre.length < D.length := by omega
              have hne : D ≠ [] := by intro e; rw [e] at hlen; simp at hlen
              obtain ⟨b, off, rfl, hbH2, hcell⟩ := cD.out hne
              have hx : D.getD pre.length 0 ≠ x := fun e => hpx (by
                obtain ⟨r, hr⟩ := hpH.out
                have hl : r ≠ [] := by intro e2; rw [e2, List.append_nil] at hr; rw [hr] at hlen; omega
                obtain ⟨y, r2, rfl⟩ := List.exists_cons_of_ne_nil hl
                have : D.getD pre.length 0 = y := by rw [← hr]; simp [List.getD]
                rw [this] at e
                subst e
                exact ⟨r2, by rw [← hr]; simp⟩)
              have cx : W.cell? ⟨b, off + pre.length, none⟩ = some (.int .i64 ((D.getD pre.length 0 : Nat) : Int)) := ((hB2.out.trans hBH.out).cell (p := ⟨b, off + pre.length, none⟩) (show b < _ by omega)).trans (hcell pre.length hlen)
              generalize D.getD pre.length 0 = z at hx cx
              have q1 : ((x : Int) == (z : Int)) = false := beq_eq_false_iff_ne.2 (by omega)
              have q2 : ((x : Int) != (z : Int)) = true := by simp [bne, q1]
              clear hcell hpx hx hne
              gi_wp2
              exact ⟨hgone.out, rfl, hpxH.out⟩
        case done2 =>
          rintro D2 ys W hD2' hys ⟨⟨hb, hp⟩, hB, hK1⟩ hK3
          obtain rfl : D = ys := (hys.trans hDH.out).symm
          clear hys
          have BX : Below (H + 1 + 1) Wk W := hB2.out.trans hB
          have ck := hb.cell
          have fk := hb.frozen
          have cLW : W.cell? ⟨H, 0, none⟩ = some (.slice al D.length cl) := (BX.cell (p := ⟨H, 0, none⟩) (show H < _ by omega)).trans cL.out
          have cSW : W.cell? ⟨w.heap.size, 0, none⟩ = some (.int .i64 stop) := (BX.cell (p := ⟨w.heap.size, 0, none⟩) (show w.heap.size < _ by have := hHs.out; omega)).trans cS.out
          have cRW : W.cell? ⟨w.heap.size + 1, 0, none⟩ = some (.bool false) := (BX.cell (p := ⟨w.heap.size + 1, 0, none⟩) (show w.heap.size + 1 < _ by have := hHs.out; omega)).trans cR.out
          have fRW : W.frozen? ⟨w.heap.size + 1, 0, none⟩ = false := (BX.frozen (p := ⟨w.heap.size + 1, 0, none⟩) (show w.heap.size + 1 < _ by have := hHs.out; omega)).trans fR.out
          gi_wp2
          have hs2 := hHs.out
          have d1 := hD2.out
          have kA := (KeepsOthers.setCell W ⟨w.heap.size + 1, 0, none⟩ (.bool true)).same D2 _ hK3 rfl
          have kB := (KeepsOthers.setCell W ⟨w.heap.size + 1, 0, none⟩ (.bool true)).same D1 _ hK1 rfl
          have kC : ((W.setCell ⟨w.heap.size + 1, 0, none⟩ (.bool true)).putObj D2 (.deferred none)).heap[D1]? = some (.deferred (some [])) := (World.putObj_heap_other (by omega)).trans kB
          refine ⟨by simp, .inl ⟨_, _, rfl, run_takeDeferred kA, ?_⟩⟩
          refine ⟨by simp, .inl ⟨_, _, rfl, run_takeDeferred kC, ?_⟩⟩
          have e1 : (W.setCell ⟨w.heap.size + 1, 0, none⟩ (.bool true)).cell? ⟨w.heap.size + 1, 0, none⟩ = some (.bool true) := World.cell?_setCell_same' _ _ _ (by rw [cRW]; rfl)
          have e2 := cell_kept e1 (grownBy_putObj' _ D2 (.deferred none)) (fun r e => by cases e; exact ⟨_, kA, rfl⟩)
          have e3 := cell_kept e2 (grownBy_putObj' _ D1 (.deferred none)) (fun r e => by cases e; exact ⟨_, kC, rfl⟩)
          refine ⟨.bool true, ?_, rfl, ?_⟩
          · simp [results, Tryd.f5, go_sem, e3]
          · have f1 : Below w.heap.size w W := B0w.out.trans (BX.mono (by omega))
            have f2 := f1.setCell (p := ⟨w.heap.size + 1, 0, none⟩) (show w.heap.size ≤ w.heap.size + 1 by omega) (.bool true)
            have f3 := f2.trans (belowK_b (w := w) (Nat.le_refl _) _ D2 _ (.deferred none) (by have := hz2.out; omega) kA rfl rfl)
            exact f3.trans (belowK_b (w := w) (Nat.le_refl _) _ D1 _ (.deferred none) (by have := hD1; have := hzK.out; omega) kC rfl rfl)
        case stop2 =>
          rintro D2 c pre W _ hpre ⟨_, hno⟩ _
          exact (hno (by rw [← hDH.out]; exact hpre)).elim
theorem memory_w (n stop : Int) (w : World) :
    Calls Tryd.prog 5 #[.int .i64 n, .int .i64 stop] w fun e w' => e = .returned (.bool true) ∧ Below w.heap.size w w' := callsIn_wide.1 (memory_in n stop w)
namespace primesMemory
theorem walk (x0 x1 : Int) (w : World) (_l0 : -9223372036854775808 ≤ x0) (_u0 : x0 ≤ 9223372036854775807) (_l1 : -9223372036854775808 ≤ x1) (_u1 : x1 ≤ 9223372036854775807) (_hL : laidMetH Tryd.prog Rows.primesMemoryRow.laid w) :
    Calls Tryd.prog 5 #[.int .i64 x0, .int .i64 x1] w fun e w' => e = .returned (.bool true) ∧ Below w.heap.size w w' := memory_w x0 x1 w
end primesMemory
end Go.Proofs.YtkgecgkjmikihabDoor
