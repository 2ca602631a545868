/-
  The program's appendText, Text.
-/
import Derived.Test.YtfoblbpbhldngaaDoorOx1
namespace Go.Proofs.YtfoblbpbhldngaaDoor
open Flo Go.RowKit Tr
open Lib (decDigits byteCells OthersKept)
/-- append of a text onto a row of one's own, as one step of a region that draws its order -/
theorem step_str {P : Program} {ops : Array Oper} {o : Oper} {a : Act} {w : World} {K : Act → World → Prop} {Q : Exit → Act → World → Prop} {E : Prop}
    (hg : o.guard = none) (s : Operand) (str : ByteArray) (t u : TypeId) (hop : o.op = Op.call { callee := Callee.builtin Builtin.append, args := #[s, .const (.string str)], argTypes := #[t, u] })
    (base : Nat) (e : TypeId) (i : TypeInfo) (h1 : P.underlying t = some (.slice e)) (hu : P.underlying u = some .string) (h2 : P.info? e = some i) (h3 : i.zero = some (.int .u8 0)) (h4 : i.size = 1) (h5 : i.bytes = 1)
    (v : Value) (n : Nat) (xs : List Value) (hs : a.eval s = v) (hown : w.ownsRow base e 1 v n xs) (b1 : n + str.size ≤ maxLen) (b2 : n + str.size ≤ 140737488355328) (hb : base ≤ w.heap.size)
    (hK : ∀ v' w', w'.ownsRow base e 1 v' (n + str.size) (xs ++ Go.Lib.strCells str) → w.grownBy w' v.ownBlock → K (a.put o.dst v') w') :
    if Region.wanted o (yielded ops a.tmps) = true then Oper.wp P o a w K Q else E := by
  have hw : Region.wanted o (yielded ops a.tmps) = true := by simp [Region.wanted, hg]
  rw [if_pos hw]
  obtain ⟨v', w', hrun, r1, r2, _⟩ := Go.Lib.run_append_own_string (P := P) w base t u o.type e i h1 hu h2 h3 h4 h5 v n xs hown str b1 b2 hb
  have hx : a.eval (.const (.string str)) = .string str := rfl
  unfold Oper.wp
  simp [execOp, hop, resolve, invoke, builtin, hs, hx, hrun, Result.andThen]
  exact hK v' w' r1 r2
def AT (w0 : World) (t : Tr) : Prop := ∀ (v : Value) (w : World) (n : Nat) (xs : List Value) (sv : Value), Od w0 t v → 0 < ln t → pt t ≤ 4500 → Below w0.heap.size w0 w → w.ownsRow w0.heap.size 5 1 sv n xs → n + 20 * pt t ≤ 100000 →
  Calls Tryd.prog 29 #[sv, v] w (WE w0.heap.size n xs (tx t) w)
theorem Bo.ok {w w' : World} {b : Nat} {k n : Int} {s : Value} (h : Bo w b k n s) (ho : OthersKept 5 none w w') : Bo w' b k n s := ⟨ho b _ h.b (by simp) (fun c fz e => by cases e)⟩
theorem WE.cat {B n : Nat} {xs : List Value} {l m : List UInt8} {w w1 w' : World} {e : Ending} (hb : Below B w w1) (ho : OthersKept 5 none w w1) (h : WE B (n + l.length) (xs ++ byteCells l) m w1 e w') : WE B n xs (l ++ m) w e w' := by
  obtain ⟨v', rfl, o, b, k⟩ := h
  refine ⟨v', rfl, ?_, hb.trans b, ho.trans k⟩
  rw [byteCells_app, List.length_append, ← List.append_assoc, ← Nat.add_assoc]
  exact o
theorem below_two {B : Nat} {w0 wa w5 : World} (h1 : Below B w0 wa) (h2 : Below B w0 w5) (hs : wa.heap.size ≤ w5.heap.size) : Below B wa w5 := ⟨h2.os.trans h1.os.symm, h2.tape.trans h1.tape.symm, h2.output.trans h1.output.symm, hs, fun k hk => (h2.block k hk).trans (h1.block k hk).symm⟩
set_option maxHeartbeats 4000000 in
set_option maxRecDepth 100000 in
theorem appText_c (w0 : World) (hT0 : Lib.TabIs Tryd.prog w0 "internal/strconv.uint64pow10" .u64 Lib.pow10Tab) (t : Tr) : AT w0 t := by
  have hT : Hid (Lib.TabBelow Tryd.prog w0.heap.size w0 "internal/strconv.uint64pow10" .u64 Lib.pow10Tab) := Lib.tabBelow_of_tabIs hT0
  refine Tr.ind (P := fun t => AT w0 t) (fun k n0 ks ih0 v w n xs sv ho hln hpt hb hown hn => ?_) t
  obtain ⟨i0, hi, hz0, hz1, hz2⟩ := info_parts infoByte
  obtain ⟨ao, cap, rfl, hl0, hk0⟩ := ho.kds
  have hv0 : tx ⟨k, n0, ks⟩ = txc k n0 (ks.map tx) := tx_eq k n0 ks
  have hpk : ∀ t ∈ ks, pt t ≤ 4500 := fun t ht => by have := pt_kid (k := k) (n := n0) ht; omega
  have hlt := tx_len _ hln
  unfold txc at hv0
  obtain ⟨wa, ewa⟩ : ∃ wa, Hid (w.alloc (.cells #[.int .i64 k, .int .i64 n0, .slice ao ks.length cap] 25) = wa) := ⟨_, (rfl : _ = _)⟩
  have hB0 : w0.heap.size ≤ w.heap.size := hb.size
  have Xa : Hid (Bo wa w.heap.size k n0 (.slice ao ks.length cap)) := by show Bo _ _ _ _ _; rw [← ewa.out]; exact Bo.new _ _ _ _
  have Ba : Hid (Below w0.heap.size w0 wa) := by show Below _ _ _; rw [← ewa.out]; exact hb.alloc hB0 _
  have Wa : Hid (Below w0.heap.size w wa ∧ OthersKept 5 none w wa) := by rw [← ewa.out]; exact ⟨(Below.refl _ _).alloc hB0 _, (OthersKept.refl _ _ _).alloc _⟩
  have Oa : Hid (wa.ownsRow w0.heap.size 5 1 sv n xs) := by rw [← ewa.out]; exact hown.alloc _
  have hBa : w0.heap.size ≤ wa.heap.size := Ba.out.size
  have Ta : Hid (Lib.TabBelow Tryd.prog w0.heap.size wa "internal/strconv.uint64pow10" .u64 Lib.pow10Tab) := hT.out.on Ba.out
  obtain ⟨gx, hgx⟩ : ∃ gx, Hid (w.heap.size = gx) := ⟨_, (rfl : _ = _)⟩
  obtain ⟨B, hB⟩ : ∃ B, Hid (w0.heap.size = B) := ⟨_, (rfl : _ = _)⟩
  clear hb hown ho
  rcases ln_inv hln with ⟨rfl, h2, rfl⟩ | ⟨rfl, h2, rfl⟩ | ⟨rfl, rfl, x, y, rfl, h2, h3, _⟩ | ⟨rfl, h2, x, rfl, h3⟩
  · rw [if_pos rfl] at hv0
    obtain ⟨N, rfl⟩ := Int.eq_ofNat_of_zero_le (show 0 ≤ n0 by omega)
    rw [Int.toNat_natCast] at hv0
    rw [hv0]
    have hc : Hid (Calls Tryd.prog 41 #[sv, .int .u8 100, .int .i64 (N : Int)] wa (WE w0.heap.size n xs (100 :: decDigits N) wa)) := appNum_c w0.heap.size n N 100 sv xs wa Oa.out hBa (by omega) (by omega) Ta.out
    have ewa' : Hid (w.alloc (.cells #[.int .i64 1, .int .i64 (N : Int), .slice ao 0 cap] 25) = wa) := ewa
    have Xa' : Hid (Bo wa w.heap.size 1 (N : Int) (.slice ao 0 cap)) := Xa
    clear hv0 hk0 hl0 ih0 hln hpk hlt h2 ewa Xa
    go_enter Tryd.func29, Tryd.ntmps29
    go_upto_region 1 with fail
    rw [ewa'.out, hgx.out]
    rw [hgx.out] at Xa'
    have x0 := Xa'.out.c0
    have x1 := Xa'.out.c1
    go_wp2_with fail
    refine hc.out.mono ?_
    rintro e w2 ⟨v', rfl, o2, b2, k2⟩
    have hfin : Hid (WE w0.heap.size n xs (100 :: decDigits N) w (.returned v') w2) := ⟨v', rfl, o2, Wa.out.1.trans b2, Wa.out.2.trans k2⟩
    clear o2 b2 k2 x0 x1
    go_wp2_with fail
    go_ret
    exact hfin.out
  · rw [if_neg (by decide), if_pos rfl] at hv0
    obtain ⟨N, rfl⟩ := Int.eq_ofNat_of_zero_le (show 0 ≤ n0 by omega)
    rw [Int.toNat_natCast] at hv0
    rw [hv0]
    have hc : Hid (Calls Tryd.prog 41 #[sv, .int .u8 102, .int .i64 (N : Int)] wa (WE w0.heap.size n xs (102 :: decDigits N) wa)) := appNum_c w0.heap.size n N 102 sv xs wa Oa.out hBa (by omega) (by omega) Ta.out
    have ewa' : Hid (w.alloc (.cells #[.int .i64 2, .int .i64 (N : Int), .slice ao 0 cap] 25) = wa) := ewa
    have Xa' : Hid (Bo wa w.heap.size 2 (N : Int) (.slice ao 0 cap)) := Xa
    clear hv0 hk0 hl0 ih0 hln hpk hlt h2 ewa Xa
    go_enter Tryd.func29, Tryd.ntmps29
    go_upto_region 1 with fail
    rw [ewa'.out, hgx.out]
    rw [hgx.out] at Xa'
    have x0 := Xa'.out.c0
    have x1 := Xa'.out.c1
    go_wp2_with fail
    refine hc.out.mono ?_
    rintro e w2 ⟨v', rfl, o2, b2, k2⟩
    have hfin : Hid (WE w0.heap.size n xs (102 :: decDigits N) w (.returned v') w2) := ⟨v', rfl, o2, Wa.out.1.trans b2, Wa.out.2.trans k2⟩
    clear o2 b2 k2 x0 x1
    go_wp2_with fail
    go_ret
    exact hfin.out
  · rw [if_neg (by decide), if_neg (by decide), if_pos rfl] at hv0
    have hv1 : tx ⟨3, 0, [x, y]⟩ = [40] ++ (tx x ++ ([32, 120, 32] ++ (tx y ++ [41]))) := hv0
    rw [hv1]
    have ewa' : Hid (w.alloc (.cells #[.int .i64 3, .int .i64 0, .slice ao 2 cap] 25) = wa) := ewa
    have Xa' : Hid (Bo wa w.heap.size 3 0 (.slice ao 2 cap)) := Xa
    obtain ⟨b0, off0, s0, x', ex, K0⟩ := hk0 0 (by simp)
    obtain ⟨b1, off1, s1, y', ey, K1⟩ := hk0 1 (by simp)
    obtain rfl : x = x' := by simpa using ex
    obtain rfl : y = y' := by simpa using ey
    have e1 := K1.at0
    obtain rfl := K0.at0
    obtain ⟨rfl, rfl⟩ : b0 = b1 ∧ off0 = off1 := by simpa using e1
    obtain ⟨a0, l0, p0, rfl⟩ := K0.slc
    obtain ⟨a1, l1, p1, rfl⟩ := K1.slc
    have hpp : pt ⟨3, 0, [x, y]⟩ = 1 + (pt x + pt y) := pt_two _ _ _ _
    have hlx : (tx x).length ≤ 20 * pt x := tx_len x (by omega)
    have hly : (tx y).length ≤ 20 * pt y := tx_len y (by omega)
    have ihx : Hid (AT w0 x) := ih0 x (by simp)
    have ihy : Hid (AT w0 y) := ih0 y (by simp)
    have hpx := hpk x (by simp)
    have hpy := hpk y (by simp)
    have odx : Hid (Od w0 x (.agg #[.int .i64 x.k, .int .i64 x.n, .slice a0 l0 p0])) := K0.od
    have ody : Hid (Od w0 y (.agg #[.int .i64 y.k, .int .i64 y.n, .slice a1 l1 p1])) := K1.od
    rw [hgx.out] at Xa'
    have hS : Hid (∀ Z, Below w0.heap.size w0 Z → OthersKept 5 none wa Z → (Z.cell? ⟨gx, 2, none⟩ = some (.slice (some ⟨b0, off0, none⟩) 2 cap) ∧ Z.cell? ⟨b0, off0, none⟩ = some (.int .i64 x.k) ∧ Z.cell? ⟨b0, off0 + 1, none⟩ = some (.int .i64 x.n) ∧ Z.cell? ⟨b0, off0 + 2, none⟩ = some (.slice a0 l0 p0) ∧ Z.cell? ⟨b0, off0 + 3, none⟩ = some (.int .i64 y.k) ∧ Z.cell? ⟨b0, off0 + 3 + 1, none⟩ = some (.int .i64 y.n) ∧ Z.cell? ⟨b0, off0 + 3 + 2, none⟩ = some (.slice a1 l1 p1))) := fun Z hZ hO => by
      have k0 := K0.below hZ
      have k1 := K1.below hZ
      have c0 := k0.c0
      have c1 := k0.c1
      have c2 := k0.c2
      have d0 := k1.c0
      have d1 := k1.c1
      have d2 := k1.c2
      rw [Nat.zero_mul, Nat.add_zero] at c0 c1 c2
      rw [Nat.one_mul] at d0 d1 d2
      exact ⟨(Xa'.out.ok hO).c2, c0, c1, c2, d0, d1, d2⟩
    obtain ⟨xk, hxk⟩ : ∃ xk, Hid (x.k = xk) := ⟨_, (rfl : _ = _)⟩
    obtain ⟨xn, hxn⟩ : ∃ xn, Hid (x.n = xn) := ⟨_, (rfl : _ = _)⟩
    obtain ⟨yk, hyk⟩ : ∃ yk, Hid (y.k = yk) := ⟨_, (rfl : _ = _)⟩
    obtain ⟨yn, hyn⟩ : ∃ yn, Hid (y.n = yn) := ⟨_, (rfl : _ = _)⟩
    rw [hxk.out, hxn.out] at odx hS
    rw [hyk.out, hyn.out] at ody hS
    have hpH : Hid (n + 20 * (1 + (pt x + pt y)) ≤ 100000 ∧ (tx x).length ≤ 20 * pt x ∧ (tx y).length ≤ 20 * pt y) := ⟨by rw [hpp] at hn; exact hn, hlx, hly⟩
    have hn1 : n ≤ 100000 := by omega
    clear hv0 hv1 hk0 hl0 ih0 hln hpk hlt ewa Xa K0 K1 e1 ex ey hpp hlx hly hn
    have bA : Hid (Below w0.heap.size w0 wa.drew) := Ba.out.drew
    have oA : Hid (OthersKept 5 none wa wa.drew) := (OthersKept.refl _ _ _).drew
    obtain ⟨s0, s1, s2, s3, s4, s5, s6⟩ := hS.out wa Ba.out (OthersKept.refl _ _ _)
    have x0 := Xa'.out.c0
    go_enter Tryd.func29, Tryd.ntmps29
    go_upto_region 1 with fail
    rw [ewa'.out, hgx.out]
    go_upto_region 9 with fail
    go_region_held_law (fun Z => Z.cell? ⟨gx, 2, none⟩ = some (.slice (some ⟨b0, off0, none⟩) 2 cap) ∧ Z.cell? ⟨b0, off0, none⟩ = some (.int .i64 xk) ∧ Z.cell? ⟨b0, off0 + 1, none⟩ = some (.int .i64 xn) ∧ Z.cell? ⟨b0, off0 + 2, none⟩ = some (.slice a0 l0 p0) ∧ Z.cell? ⟨b0, off0 + 3, none⟩ = some (.int .i64 yk) ∧ Z.cell? ⟨b0, off0 + 3 + 1, none⟩ = some (.int .i64 yn) ∧ Z.cell? ⟨b0, off0 + 3 + 2, none⟩ = some (.slice a1 l1 p1)) (first | exact hS.out _ hb2.out ho2.out | exact hS.out _ hb1.out ho1.out | exact hS.out _ (bA.out.alloc (by show _ ≤ wa.heap.size; exact hBa) _) (oA.out.alloc _) | exact hS.out _ bA.out oA.out | exact hS.out _ Ba.out (OthersKept.refl _ _ _)) ((first
      | (refine step_app rfl (.tmp 33) (.tmp 34) 59 rfl w0.heap.size 5 i0 (.int .u8 0) 1 1 Tryd.underlying59 hi hz0 hz1 hz2 rfl (by decide) sv n xs (by simp [Act.eval]) (Oa.out.alloc _) ⟨wa.drew.heap.size, 0, none⟩ 1 1 [Value.int .u8 40] (by simp [Act.eval]) rfl (by intro j u' hj; match j, hj with | 0, hj => simp at hj; subst hj; simp [Addr.add]) (by simp [Value.oneCell']) (by unfold maxLen; omega) (by omega) (by simp; omega) ?_
         intro v1 w1 hown1 hgrow1
         have hb1 : Hid (Below w0.heap.size w0 w1) := (bA.out.alloc (by show _ ≤ wa.heap.size; exact hBa) _).grown hgrow1 (by simp; omega) (fun k hk => (Oa.out.lt k hk).1)
         have ho1 : Hid (OthersKept 5 none wa w1) := (oA.out.alloc _).grown hgrow1 (own_row (Oa.out.alloc _))
         have hown1H : Hid (w1.ownsRow w0.heap.size 5 1 v1 (n + 1) (xs ++ [Value.int .u8 40])) := hown1
         have hs1 : Hid (wa.heap.size ≤ w1.heap.size) := by show _ ≤ _; have := hgrow1.size; simp at this; omega
         clear hown1 hgrow1)
      | (go_at_call 29
         refine (ihx.out _ w1 (n + 1) _ v1 odx.out (by omega) hpx hb1.out hown1H.out (by have := hpH.out; omega)).mono ?_
         rintro e w2 ⟨v2, rfl, hown2, hnx2, hok2⟩
         have hb2 : Hid (Below w0.heap.size w0 w2) := hb1.out.trans hnx2
         have ho2 : Hid (OthersKept 5 none wa w2) := ho1.out.trans hok2
         have hown2H : Hid (w2.ownsRow w0.heap.size 5 1 v2 (n + 1 + (tx x).length) (xs ++ [Value.int .u8 40] ++ byteCells (tx x))) := hown2
         have hs2 : Hid (wa.heap.size ≤ w2.heap.size) := Nat.le_trans hs1.out hnx2.size
         clear hown2 hnx2 hok2)
      | fail))
    obtain ⟨r0, r1, r2, r3, r4, r5, r6⟩ := hS.out w2 hb2.out ho2.out
    have bA2 : Hid (Below w0.heap.size w0 w2.drew) := hb2.out.drew
    have oA2 : Hid (OthersKept 5 none wa w2.drew) := ho2.out.drew
    clear s0 s1 s2 s3 s4 s5 s6 x0
    go_upto_region 10 with fail
    go_region_held_law (fun Z => Z.cell? ⟨gx, 2, none⟩ = some (.slice (some ⟨b0, off0, none⟩) 2 cap) ∧ Z.cell? ⟨b0, off0, none⟩ = some (.int .i64 xk) ∧ Z.cell? ⟨b0, off0 + 1, none⟩ = some (.int .i64 xn) ∧ Z.cell? ⟨b0, off0 + 2, none⟩ = some (.slice a0 l0 p0) ∧ Z.cell? ⟨b0, off0 + 3, none⟩ = some (.int .i64 yk) ∧ Z.cell? ⟨b0, off0 + 3 + 1, none⟩ = some (.int .i64 yn) ∧ Z.cell? ⟨b0, off0 + 3 + 2, none⟩ = some (.slice a1 l1 p1)) (first | exact hS.out _ hb4.out ho4.out | exact hS.out _ hb3.out ho3.out | exact hS.out _ bA2.out oA2.out | exact hS.out _ hb2.out ho2.out) ((first
      | (refine step_str rfl (.tmp 41) ⟨#[32, 120, 32]⟩ 59 9 rfl w0.heap.size 5 i0 Tryd.underlying59 Tryd.underlying9 hi hz0 hz1 hz2 v2 (n + 1 + (tx x).length) _ (by simp [Act.eval]) hown2H.out (by unfold maxLen; show _ + 3 ≤ _; have := hpH.out; omega) (by show _ + 3 ≤ _; have := hpH.out; omega) (by have := hb2.out.size; show _ ≤ w2.heap.size; omega) ?_
         intro v3 w3 hown3 hgrow3
         have hb3 : Hid (Below w0.heap.size w0 w3) := bA2.out.grown hgrow3 (by have := hb2.out.size; show _ ≤ w2.heap.size; omega) (fun k hk => (hown2H.out.lt k hk).1)
         have ho3 : Hid (OthersKept 5 none wa w3) := oA2.out.grown hgrow3 (own_row hown2H.out)
         have hown3H : Hid (w3.ownsRow w0.heap.size 5 1 v3 (n + 1 + (tx x).length + 3) (xs ++ [Value.int .u8 40] ++ byteCells (tx x) ++ [Value.int .u8 32, Value.int .u8 120, Value.int .u8 32])) := hown3
         have hs3 : Hid (wa.heap.size ≤ w3.heap.size) := Nat.le_trans hs2.out hgrow3.size
         clear hown3 hgrow3)
      | (go_at_call 29
         refine (ihy.out _ w3 _ _ v3 ody.out (by omega) hpy hb3.out hown3H.out (by have := hpH.out; omega)).mono ?_
         rintro e w4 ⟨v4, rfl, hown4, hnx4, hok4⟩
         have hb4 : Hid (Below w0.heap.size w0 w4) := hb3.out.trans hnx4
         have ho4 : Hid (OthersKept 5 none wa w4) := ho3.out.trans hok4
         have hown4H : Hid (w4.ownsRow w0.heap.size 5 1 v4 (n + 1 + (tx x).length + 3 + (tx y).length) (xs ++ [Value.int .u8 40] ++ byteCells (tx x) ++ [Value.int .u8 32, Value.int .u8 120, Value.int .u8 32] ++ byteCells (tx y))) := hown4
         have hs4 : Hid (wa.heap.size ≤ w4.heap.size) := Nat.le_trans hs3.out hnx4.size
         clear hown4 hnx4 hok4)
      | fail))
    clear r0 r1 r2 r3 r4 r5 r6
    go_wp2_with (at_builtin; refine wpList_append_own _ rfl _ _ 59 rfl w0.heap.size 5 i0 (.int .u8 0) 1 1 Tryd.underlying59 hi hz0 hz1 hz2 rfl (by decide) _ _ _ rfl (hown4H.out.alloc _) ⟨w4.heap.size, 0, none⟩ 1 1 [Value.int .u8 41] rfl rfl (by intro j u' hj; match j, hj with | 0, hj => simp at hj; subst hj; simp [Addr.add]) (by intro u' hu'; simp at hu'; subst hu'; rfl) (by unfold maxLen; have := hpH.out; omega) (by have := hpH.out; omega) (by have := hb4.out.size; simp; omega) ?_)
    intro v5 w5 hown5 hgrow5 _
    have hb5 : Below w0.heap.size w0 w5 := (hb4.out.alloc hb4.out.size _).grown hgrow5 (by have := hb4.out.size; simp; omega) (fun k hk => (hown4H.out.lt k hk).1)
    have hbw5 : Below w0.heap.size w4 w5 := ((Below.refl w0.heap.size w4).alloc hb4.out.size _).grown hgrow5 (by have := hb4.out.size; simp; omega) (fun k hk => (hown4H.out.lt k hk).1)
    have ho5 : OthersKept 5 none w4 w5 := ((OthersKept.refl _ _ _).alloc _).grown hgrow5 (own_row (hown4H.out.alloc _))
    have hfin : Hid (∃ v', Ending.returned v5 = .returned v' ∧ w5.ownsRow w0.heap.size 5 1 v' (n + ([40] ++ (tx x ++ ([32, 120, 32] ++ (tx y ++ [41])))).length) (xs ++ byteCells ([40] ++ (tx x ++ ([32, 120, 32] ++ (tx y ++ [41]))))) ∧ Below w0.heap.size w w5 ∧ OthersKept 5 none w w5) := by
      refine ⟨v5, rfl, ?_, ?_, Wa.out.2.trans (ho4.out.trans ho5)⟩
      · have e1 : n + 1 + (tx x).length + 3 + (tx y).length + 1 = n + ([40] ++ (tx x ++ ([32, 120, 32] ++ (tx y ++ [41])))).length := by simp; omega
        have e2 : xs ++ Value.int .u8 40 :: (byteCells (tx x) ++ Value.int .u8 32 :: Value.int .u8 120 :: Value.int .u8 32 :: (byteCells (tx y) ++ [Value.int .u8 41])) = xs ++ byteCells ([40] ++ (tx x ++ ([32, 120, 32] ++ (tx y ++ [41])))) := by simp [byteCells]
        rw [← e1, ← e2]; exact hown5
      · exact Wa.out.1.trans (below_two Ba.out hb5 (Nat.le_trans hs4.out hbw5.size))
    clear hown5 hgrow5 hb5 hbw5 ho5
    go_wp2_with fail
    go_ret
    exact hfin.out
  · rw [if_neg (by decide), if_neg (by decide), if_neg (by decide)] at hv0
    obtain ⟨N, rfl⟩ := Int.eq_ofNat_of_zero_le (show 0 ≤ n0 by omega)
    rw [Int.toNat_natCast] at hv0
    have hv1 : tx ⟨4, (N : Int), [x]⟩ = (98 :: decDigits N) ++ ([40] ++ (tx x ++ [41])) := by rw [hv0]; simp
    rw [hv1]
    have ewa' : Hid (w.alloc (.cells #[.int .i64 4, .int .i64 (N : Int), .slice ao 1 cap] 25) = wa) := ewa
    have Xa' : Hid (Bo wa w.heap.size 4 (N : Int) (.slice ao 1 cap)) := Xa
    obtain ⟨b0, off0, s0, x', ex, K0⟩ := hk0 0 (by simp)
    obtain rfl : x = x' := by simpa using ex
    obtain rfl := K0.at0
    obtain ⟨a0, l0, p0, rfl⟩ := K0.slc
    have hpp : pt ⟨4, (N : Int), [x]⟩ = 1 + pt x := pt_one _ _ _
    have hlx : (tx x).length ≤ 20 * pt x := tx_len x (by omega)
    have ihx : Hid (AT w0 x) := ih0 x (by simp)
    have hpx := hpk x (by simp)
    have odx : Hid (Od w0 x (.agg #[.int .i64 x.k, .int .i64 x.n, .slice a0 l0 p0])) := K0.od
    rw [hgx.out] at Xa'
    have hS : Hid (∀ Z, Below w0.heap.size w0 Z → OthersKept 5 none wa Z → (Z.cell? ⟨gx, 2, none⟩ = some (.slice (some ⟨b0, off0, none⟩) 1 cap) ∧ Z.cell? ⟨b0, off0, none⟩ = some (.int .i64 x.k) ∧ Z.cell? ⟨b0, off0 + 1, none⟩ = some (.int .i64 x.n) ∧ Z.cell? ⟨b0, off0 + 2, none⟩ = some (.slice a0 l0 p0))) := fun Z hZ hO => by
      have k0 := K0.below hZ
      have c0 := k0.c0
      have c1 := k0.c1
      have c2 := k0.c2
      rw [Nat.zero_mul, Nat.add_zero] at c0 c1 c2
      exact ⟨(Xa'.out.ok hO).c2, c0, c1, c2⟩
    obtain ⟨xk, hxk⟩ : ∃ xk, Hid (x.k = xk) := ⟨_, (rfl : _ = _)⟩
    obtain ⟨xn, hxn⟩ : ∃ xn, Hid (x.n = xn) := ⟨_, (rfl : _ = _)⟩
    rw [hxk.out, hxn.out] at odx hS
    have hld : (decDigits N).length ≤ 10 := dd_short (by omega) (by omega)
    obtain ⟨D, hD⟩ : ∃ D, Hid ((98 :: decDigits N).length = D) := ⟨_, (rfl : _ = _)⟩
    have hD1 : D ≤ 11 := by rw [← hD.out]; simp; omega
    have hpH : Hid (n + 20 * (1 + pt x) ≤ 100000 ∧ (tx x).length ≤ 20 * pt x) := ⟨by rw [hpp] at hn; exact hn, hlx⟩
    have hn1 : n ≤ 100000 := by omega
    have hN : N ≤ 999999 := by omega
    have hlx2 : 0 < ln x := by omega
    clear hv0 hv1 hk0 hl0 ih0 hln hpk hlt ewa Xa K0 ex hpp hlx hn h2 h3 hld
    have x0 := Xa'.out.c0
    have x1 := Xa'.out.c1
    have hc : Hid (Calls Tryd.prog 41 #[sv, .int .u8 98, .int .i64 (N : Int)] wa (WE w0.heap.size n xs (98 :: decDigits N) wa)) := appNum_c w0.heap.size n N 98 sv xs wa Oa.out hBa (by omega) hN Ta.out
    go_enter Tryd.func29, Tryd.ntmps29
    go_upto_region 1 with fail
    rw [ewa'.out, hgx.out]
    go_wp2_with fail
    refine hc.out.mono ?_
    rintro e wn ⟨vn, rfl, on, bn, kn⟩
    have hbn : Hid (Below w0.heap.size w0 wn) := Ba.out.trans bn
    have hon : Hid (OthersKept 5 none wa wn) := kn
    have hsn : Hid (wa.heap.size ≤ wn.heap.size) := bn.size
    have hbnS : w0.heap.size ≤ wn.heap.size := hbn.out.size
    rw [hD.out] at on
    have hownN : Hid (wn.ownsRow w0.heap.size 5 1 vn (n + D) (xs ++ byteCells (98 :: decDigits N))) := on
    clear hc on bn kn x0 x1
    obtain ⟨XN, hXN⟩ : ∃ XN, Hid (xs ++ byteCells (98 :: decDigits N) = XN) := ⟨_, (rfl : _ = _)⟩
    rw [hXN.out] at hownN
    obtain ⟨s0, s1, s2, s3⟩ := hS.out wn hbn.out hon.out
    have bA : Hid (Below w0.heap.size w0 wn.drew) := hbn.out.drew
    have oA : Hid (OthersKept 5 none wa wn.drew) := hon.out.drew
    go_upto_region 3 with fail
    go_region_held_law (fun Z => Z.cell? ⟨gx, 2, none⟩ = some (.slice (some ⟨b0, off0, none⟩) 1 cap) ∧ Z.cell? ⟨b0, off0, none⟩ = some (.int .i64 xk) ∧ Z.cell? ⟨b0, off0 + 1, none⟩ = some (.int .i64 xn) ∧ Z.cell? ⟨b0, off0 + 2, none⟩ = some (.slice a0 l0 p0)) (first | exact hS.out _ hb2.out ho2.out | exact hS.out _ hb1.out ho1.out | exact hS.out _ (bA.out.alloc (by show _ ≤ wn.heap.size; exact hbnS) _) (oA.out.alloc _) | exact hS.out _ bA.out oA.out | exact hS.out _ hbn.out hon.out) ((first
      | (refine step_app rfl (.tmp 11) (.tmp 12) 59 rfl w0.heap.size 5 i0 (.int .u8 0) 1 1 Tryd.underlying59 hi hz0 hz1 hz2 rfl (by decide) vn (n + D) XN (by simp [Act.eval]) (hownN.out.alloc _) ⟨wn.drew.heap.size, 0, none⟩ 1 1 [Value.int .u8 40] (by simp [Act.eval]) rfl (by intro j u' hj; match j, hj with | 0, hj => simp at hj; subst hj; simp [Addr.add]) (by simp [Value.oneCell']) (by unfold maxLen; omega) (by omega) (by simp; omega) ?_
         intro v1 w1 hown1 hgrow1
         have hb1 : Hid (Below w0.heap.size w0 w1) := (bA.out.alloc (by show _ ≤ wn.heap.size; exact hbnS) _).grown hgrow1 (by simp; omega) (fun k hk => (hownN.out.lt k hk).1)
         have ho1 : Hid (OthersKept 5 none wa w1) := (oA.out.alloc _).grown hgrow1 (own_row (hownN.out.alloc _))
         have hown1H : Hid (w1.ownsRow w0.heap.size 5 1 v1 (n + D + 1) (XN ++ [Value.int .u8 40])) := hown1
         have hs1 : Hid (wa.heap.size ≤ w1.heap.size) := by show _ ≤ _; have h1 := hgrow1.size; have h2 := hsn.out; simp at h1; omega
         clear hown1 hgrow1)
      | (go_at_call 29
         refine (ihx.out _ w1 (n + D + 1) _ v1 odx.out hlx2 hpx hb1.out hown1H.out (by have := hpH.out; omega)).mono ?_
         rintro e w2 ⟨v2, rfl, hown2, hnx2, hok2⟩
         have hb2 : Hid (Below w0.heap.size w0 w2) := hb1.out.trans hnx2
         have ho2 : Hid (OthersKept 5 none wa w2) := ho1.out.trans hok2
         have hown2H : Hid (w2.ownsRow w0.heap.size 5 1 v2 (n + D + 1 + (tx x).length) (XN ++ [Value.int .u8 40] ++ byteCells (tx x))) := hown2
         have hs2 : Hid (wa.heap.size ≤ w2.heap.size) := Nat.le_trans hs1.out hnx2.size
         clear hown2 hnx2 hok2)
      | fail))
    clear s0 s1 s2 s3
    go_wp2_with (at_builtin; refine wpList_append_own _ rfl _ _ 59 rfl w0.heap.size 5 i0 (.int .u8 0) 1 1 Tryd.underlying59 hi hz0 hz1 hz2 rfl (by decide) _ _ _ rfl (hown2H.out.alloc _) ⟨w2.heap.size, 0, none⟩ 1 1 [Value.int .u8 41] rfl rfl (by intro j u' hj; match j, hj with | 0, hj => simp at hj; subst hj; simp [Addr.add]) (by intro u' hu'; simp at hu'; subst hu'; rfl) (by unfold maxLen; have := hpH.out; omega) (by have := hpH.out; omega) (by have := hb2.out.size; simp; omega) ?_)
    intro v5 w5 hown5 hgrow5 _
    have hb5 : Below w0.heap.size w0 w5 := (hb2.out.alloc hb2.out.size _).grown hgrow5 (by have := hb2.out.size; simp; omega) (fun k hk => (hown2H.out.lt k hk).1)
    have hbw5 : Below w0.heap.size w2 w5 := ((Below.refl w0.heap.size w2).alloc hb2.out.size _).grown hgrow5 (by have := hb2.out.size; simp; omega) (fun k hk => (hown2H.out.lt k hk).1)
    have ho5 : OthersKept 5 none w2 w5 := ((OthersKept.refl _ _ _).alloc _).grown hgrow5 (own_row (hown2H.out.alloc _))
    have hfin : Hid (∃ v', Ending.returned v5 = .returned v' ∧ w5.ownsRow w0.heap.size 5 1 v' (n + ((98 :: decDigits N) ++ ([40] ++ (tx x ++ [41]))).length) (xs ++ byteCells ((98 :: decDigits N) ++ ([40] ++ (tx x ++ [41])))) ∧ Below w0.heap.size w w5 ∧ OthersKept 5 none w w5) := by
      refine ⟨v5, rfl, ?_, ?_, Wa.out.2.trans (ho2.out.trans ho5)⟩
      · have e1 : n + D + 1 + (tx x).length + 1 = n + ((98 :: decDigits N) ++ ([40] ++ (tx x ++ [41]))).length := by rw [List.length_append, hD.out]; simp; omega
        have e2 : XN ++ Value.int .u8 40 :: (byteCells (tx x) ++ [Value.int .u8 41]) = xs ++ byteCells ((98 :: decDigits N) ++ ([40] ++ (tx x ++ [41]))) := by rw [← hXN.out]; simp [byteCells]
        rw [← e1, ← e2]; exact hown5
      · exact Wa.out.1.trans (below_two Ba.out hb5 (Nat.le_trans hs2.out hbw5.size))
    clear hown5 hgrow5 hb5 hbw5 ho5
    go_wp2_with fail
    go_ret
    exact hfin.out
end Go.Proofs.YtfoblbpbhldngaaDoor
