/-
  The program's viewAt, at every size and unit.
-/
import Derived.Test.YtmfnjmgdindlaaaDoorPl1
import Derived.Test.YtmfnjmgdindlaaaDoorSc4
import Derived.Test.YtmfnjmgdindlaaaDoorShr
import Derived.Deep.DeepCutAuto
namespace Go.Proofs.YtmfnjmgdindlaaaDoor
open Flo Go.RowKit
/-- the blocks of a call of viewAt -/
structure Vs (w : World) (C a : Nat) (u d : Value) (U D : Nat) (wx : World) (vs : List Value) : Prop where
  kr : Cells wx w.heap.size [.int .i64 0, .int .u64 0, .bool false, .int .u64 0, .int .u64 0]
  ks : Cells wx a [u, d]
  kv : Cells wx (a + 1) vs
  hu : Nl wx C u U
  hd : Nl wx C d D
  bw : Below w.heap.size w wx
  lt : w.heap.size < a
  ul : ∀ b, u.ownBlock = some b → b < a
  dl : ∀ b, d.ownBlock = some b → b < a
theorem Vs.below {w : World} {C a : Nat} {u d : Value} {U D : Nat} {wx wy : World} {vs : List Value} (h : Vs w C a u d U D wx vs) (hb : Below wx.heap.size wx wy) : Vs w C a u d U D wy vs :=
  ⟨h.kr.below hb, h.ks.below hb, h.kv.below hb, Row.under h.hu hb, Row.under h.hd hb, h.bw.trans (hb.mono h.bw.size), h.lt, h.ul, h.dl⟩
theorem Vs.set {w : World} {C a : Nat} {u d : Value} {U D : Nat} {wx : World} {vs : List Value} (h : Vs w C a u d U D wx vs) (i : Nat) (x : Value) (hi : i < vs.length) : Vs w C a u d U D (wx.setCell ⟨a + 1, i, none⟩ x) (vs.set i x) :=
  have hlt := h.lt
  ⟨h.kr.other (a := ⟨a + 1, i, none⟩) (by show a + 1 ≠ w.heap.size; omega) x, h.ks.other (a := ⟨a + 1, i, none⟩) (by show a + 1 ≠ a; omega) x, h.kv.set i x hi,
    Row.block h.hu fun b hb => by have := h.ul b hb; rw [Below.heap_setCell _ _ _ _ (by show b ≠ a + 1; omega)],
    Row.block h.hd fun b hb => by have := h.dl b hb; rw [Below.heap_setCell _ _ _ _ (by show b ≠ a + 1; omega)],
    h.bw.setCell (p := ⟨a + 1, i, none⟩) (by show w.heap.size ≤ a + 1; omega) x, h.lt, h.ul, h.dl⟩
theorem ret_view (t : Int) {a b c a' b' c' : Int} {x x' : Bool} (h1 : a = a') (h2 : x = x') (h3 : b = b') (h4 : c = c') : Ending.returned (.agg #[.int .i64 t, .int .u64 a, .bool x, .int .u64 b, .int .u64 c]) = .returned (.agg #[.int .i64 t, .int .u64 a', .bool x', .int .u64 b', .int .u64 c']) := by rw [h1, h2, h3, h4]
theorem units_g (x U D q : Nat) (ex : Bool) (u v : Value) (w : World) (C : Nat) (hu : Nl w C u U) (hv : Nl w C v D) (hx0 : 0 < x) (hx : x < 18446744073709551616) (hD : 0 < D) (hU1 : Wd.nw W64 U ≤ 1000) (hD1 : Wd.nw W64 D ≤ 1000)
    (hq : x * U / D = q) (he : decide (x * U % D = 0) = ex) (hql : q < 18446744073709551616) :
    Calls Tryd.prog 62 #[.agg #[u, v], .int .u64 x] w fun e w' => e = .returned (.tuple #[.int .u64 (q : Int), .bool ex]) ∧ Below w.heap.size w w' := by
  have h := units_c C C U D x u v w hu hv hD hx0 hx (by show _ < _; rw [Nat.mul_comm, hq]; exact hql) hU1 hD1
  rw [Nat.mul_comm U x, hq, he] at h
  exact h
theorem units_e (x : Nat) (xi : Int) (U D q : Nat) (ex : Bool) (u v : Value) (w : World) (C : Nat) (exi : xi = (x : Int)) (hu : Nl w C u U) (hv : Nl w C v D) (hx0 : 0 < x) (hx : x < 18446744073709551616) (hD : 0 < D) (hU1 : Wd.nw W64 U ≤ 1000) (hD1 : Wd.nw W64 D ≤ 1000)
    (hq : x * U / D = q) (he : decide (x * U % D = 0) = ex) (hql : q < 18446744073709551616) :
    Calls Tryd.prog 62 #[.agg #[u, v], .int .u64 xi] w fun e w' => e = .returned (.tuple #[.int .u64 (q : Int), .bool ex]) ∧ Below w.heap.size w w' := by
  subst exi; exact units_g x U D q ex u v w C hu hv hx0 hx hD hU1 hD1 hq he hql
theorem scaleOf_e (a e t : Int) (U D : Nat) (w : World) (ea : a = e) (he1 : -2000 ≤ e) (he2 : e ≤ 2000) (ht1 : -2000 ≤ t) (ht2 : t ≤ 2000) (hU : Rd.sU e t = U) (hD : Rd.sD e t = D) :
    Calls Tryd.prog 61 #[.int .i64 a, .int .i64 t] w fun r w' => ∃ u d, r = .returned (.agg #[u, d]) ∧ Nl w' w.heap.size u U ∧ Nl w' w.heap.size d D ∧ Below w.heap.size w w' := by
  subst ea hU hD; exact scaleOf_g a t w he1 he2 ht1 ht2
set_option maxRecDepth 100000 in
set_option maxHeartbeats 2000000 in
theorem viewAt_c (E m U D : Nat) (p t : Int) (w : World) (h0 : 0 < m) (h1 : m < 9007199254740992) (hE : E ≤ 2045) (ht1 : -400 ≤ t) (ht2 : t ≤ 400) (hp : p = (E : Int) - 1074)
    (hU : Hid (Rd.sU ((E : Int) - 1076) t = U)) (hD : Hid (Rd.sD ((E : Int) - 1076) t = D)) (hU1 : Hid (Wd.nw W64 U ≤ 1000)) (hD1 : Hid (Wd.nw W64 D ≤ 1000))
    (hlim : Hid (Rd.top m * U < 18446744073709551615 * D)) (hone : Hid (D ≤ Rd.top m * U)) :
    Calls Tryd.prog 41 #[.int .u64 m, .int .i64 p, .int .i64 t] w fun e w' => e = .returned (.agg #[.int .i64 t, .int .u64 ((4 * m * U / D : Nat) : Int), .bool (decide (4 * m * U % D = 0)), .int .u64 ((Rd.lea (Rd.bot E m) U D m : Nat) : Int), .int .u64 ((Rd.mos (Rd.top m) U D m : Nat) : Int)]) ∧ Below w.heap.size w w' := by
  subst hp
  have hDp : Hid (0 < D) := (by rw [← hD.out]; exact Rd.sD_pos _ _ : 0 < D)
  have hbq : Hid (0 < Rd.bot E m ∧ Rd.bot E m ≤ 4 * m ∧ Rd.bot E m < 18446744073709551616) := (by unfold Rd.bot; split <;> omega : 0 < Rd.bot E m ∧ Rd.bot E m ≤ 4 * m ∧ Rd.bot E m < 18446744073709551616)
  have q4 : Hid (∀ x, x ≤ Rd.top m → x * U / D < 18446744073709551615) := fun x hx => by
    rw [Nat.div_lt_iff_lt_mul hDp.out]
    exact Nat.lt_of_le_of_lt (Nat.mul_le_mul_right _ hx) hlim.out
  obtain ⟨B, hB⟩ : ∃ B, Rd.bot E m = B := ⟨_, rfl⟩
  have hBH : Hid (Rd.bot E m = B) := hB
  obtain ⟨W, hW⟩ : ∃ W, 4 * m * U / D = W := ⟨_, rfl⟩
  obtain ⟨L, hL⟩ : ∃ L, B * U / D = L := ⟨_, rfl⟩
  obtain ⟨T, hT⟩ : ∃ T, Rd.top m * U / D = T := ⟨_, rfl⟩
  have hWl : W < 18446744073709551615 := by rw [← hW]; exact q4.out _ (by unfold Rd.top; omega)
  have hLl : L < 18446744073709551615 := by rw [← hL]; exact q4.out _ (by rw [hB] at hbq; have := hbq.out; unfold Rd.top; omega)
  have hTl : T < 18446744073709551615 := by rw [← hT]; exact q4.out _ (Nat.le_refl _)
  have hT1 : 1 ≤ T := by rw [← hT]; exact (Nat.one_le_div_iff hDp.out).2 hone.out
  have hWH : Hid (4 * m * U / D = W) := hW
  have hLH : Hid (B * U / D = L) := hL
  have hTH : Hid (Rd.top m * U / D = T) := hT
  obtain ⟨x1, hx1⟩ : ∃ x1, decide (4 * m * U % D = 0) = x1 := ⟨_, rfl⟩
  obtain ⟨x2, hx2⟩ : ∃ x2, decide (B * U % D = 0) = x2 := ⟨_, rfl⟩
  obtain ⟨x3, hx3⟩ : ∃ x3, decide (Rd.top m * U % D = 0) = x3 := ⟨_, rfl⟩
  have h1H : Hid (decide (4 * m * U % D = 0) = x1) := hx1
  have h2H : Hid (decide (B * U % D = 0) = x2) := hx2
  have h3H : Hid (decide (Rd.top m * U % D = 0) = x3) := hx3
  have hLe : Hid ((Rd.lea (Rd.bot E m) U D m : Nat) = L + if x2 = false ∨ m % 2 = 1 then 1 else 0) := (by
    unfold Rd.lea; rw [hB, hL, ← hx2]; simp only [decide_eq_false_iff_not, ne_eq] : (Rd.lea (Rd.bot E m) U D m : Nat) = L + if x2 = false ∨ m % 2 = 1 then 1 else 0)
  have hMo : Hid ((Rd.mos (Rd.top m) U D m : Nat) = T - if x3 = true ∧ m % 2 = 1 then 1 else 0) := (by
    unfold Rd.mos; rw [hT, ← hx3]; simp only [decide_eq_true_eq] : (Rd.mos (Rd.top m) U D m : Nat) = T - if x3 = true ∧ m % 2 = 1 then 1 else 0)
  rw [hW, hx1]
  rw [hB] at hbq
  clear hB hW hL hT hx1 hx2 hx3
  have b1 : 2 ≤ 4 * (m : Int) := by omega
  go_enter Tryd.func41, Tryd.ntmps41
  go_upto_region 2 with fail
  generalize hW0 : w.alloc (.cells #[.int .i64 0, .int .u64 0, .bool false, .int .u64 0, .int .u64 0] 52) = W0
  have kr0 : Hid (Cells W0 w.heap.size [.int .i64 0, .int .u64 0, .bool false, .int .u64 0, .int .u64 0]) := by rw [← hW0]; exact Cells.new _ _ _
  have bw0 : Hid (Below w.heap.size w W0) := by rw [← hW0]; exact (Below.refl _ _).alloc (Nat.le_refl _) _
  clear hW0
  go_cut [23] (fun sb wx => sb = .bool (decide (m = 4503599627370496 ∧ 0 < E)) ∧ wx = W0)
  case first =>
    by_cases c1 : m = 4503599627370496
    · have c1' : ((m : Int) == 4503599627370496) = true := beq_iff_eq.2 (by omega)
      by_cases c2 : 0 < E
      · have c2' : (E : Int) - 1074 > -1074 := by omega
        have hv : Hid (true = decide (m = 4503599627370496 ∧ 0 < E)) := (decide_eq_true ⟨c1, c2⟩).symm
        clear c1
        go_wp2_with fail
        go_meet
        case rel => exact ⟨congrArg Value.bool hv.out, rfl⟩
      · have c2' : decide ((E : Int) - 1074 > -1074) = false := decide_eq_false (by omega)
        have hv : Hid (false = decide (m = 4503599627370496 ∧ 0 < E)) := (decide_eq_false (fun h => c2 h.2)).symm
        clear c1 c2
        go_wp2_with fail
        go_meet
        case rel => exact ⟨congrArg Value.bool hv.out, rfl⟩
    · have c1' : ((m : Int) == 4503599627370496) = false := beq_eq_false_iff_ne.2 (by omega)
      have hv : Hid (false = decide (m = 4503599627370496 ∧ 0 < E)) := (decide_eq_false (fun h => c1 h.1)).symm
      clear c1
      go_wp2_with fail
      go_meet
      case rel => exact ⟨congrArg Value.bool hv.out, rfl⟩
  case rest =>
    obtain ⟨rfl, rfl⟩ := hcut
    go_upto_if 23 with fail
    obtain ⟨bb, hbb⟩ : ∃ bb, decide (m = 4503599627370496 ∧ 0 < E) = bb := ⟨_, rfl⟩
    rw [hbb]
    go_cut [8] (fun s wx => s = .int .u64 (B : Int) ∧ wx = wc)
    case first =>
      cases bb
      · have hv : Hid (4 * (m : Int) - 2 = (B : Int)) := (by
          have := of_decide_eq_false hbb
          rw [← hBH.out]; unfold Rd.bot; rw [if_neg (by omega)]; omega : 4 * (m : Int) - 2 = (B : Int))
        clear hbb
        go_wp2_with fail
        go_meet
        case rel => exact ⟨congrArg (Value.int .u64) hv.out, rfl⟩
      · have hv : Hid (4 * (m : Int) - 1 = (B : Int)) := (by
          have := of_decide_eq_true hbb
          rw [← hBH.out]; unfold Rd.bot; rw [if_pos (by omega)]; omega : 4 * (m : Int) - 1 = (B : Int))
        clear hbb
        go_wp2_with fail
        go_meet
        case rel => exact ⟨congrArg (Value.int .u64) hv.out, rfl⟩
    case rest =>
      obtain ⟨rfl, rfl⟩ := hcut
      clear hbb
      go_wp2_with fail
      refine (scaleOf_e _ ((E : Int) - 1076) t U D wc (by omega) (by omega) (by omega) (by omega) (by omega) hU.out hD.out).mono ?_
      rintro e w1 ⟨u, d, rfl, hu, hd, hb1⟩
      obtain ⟨ao1, cap1, hs1⟩ := Row.slice hu
      obtain ⟨ao2, cap2, hs2⟩ := Row.slice hd
      subst hs1
      subst hs2
      generalize hl1 : Wd.nw W64 U = l1 at hu ⊢
      generalize hl2 : Wd.nw W64 D = l2 at hd ⊢
      have hu1 : Hid (Nl w1 wc.heap.size (.slice ao1 l1 cap1) U) := hu
      have hd1 : Hid (Nl w1 wc.heap.size (.slice ao2 l2 cap2) D) := hd
      have hb1H : Hid (Below wc.heap.size wc w1) := hb1
      clear hu hd hb1 hl1 hl2
      go_wp2_with fail
      generalize hX : (w1.alloc (.cells #[.slice ao1 l1 cap1, .slice ao2 l2 cap2] 89)).alloc (.cells #[.int .i64 t, .int .u64 0, .bool false, .int .u64 0, .int .u64 0] 52) = X2
      have k : Hid (Vs w wc.heap.size w1.heap.size (.slice ao1 l1 cap1) (.slice ao2 l2 cap2) U D X2 [.int .i64 t, .int .u64 0, .bool false, .int .u64 0, .int .u64 0]) := (by
        rw [← hX]
        have kr1 := kr0.out.below hb1H.out
        have bw1 : Below w.heap.size w w1 := bw0.out.trans (hb1H.out.mono bw0.out.size)
        refine ⟨(kr1.alloc _).alloc _, (Cells.new w1 _ _).alloc _, ?_, Row.allocs (Row.allocs hu1.out _) _, Row.allocs (Row.allocs hd1.out _) _, (bw1.alloc bw1.size _).alloc (by rw [World.size_alloc]; exact Nat.le_succ_of_le bw1.size) _, kr1.lt, fun b hb => (Row.lt hu1.out b hb).2, fun b hb => (Row.lt hd1.out b hb).2⟩
        have h := Cells.new (w1.alloc (.cells #[.slice ao1 l1 cap1, .slice ao2 l2 cap2] 89)) #[.int .i64 t, .int .u64 0, .bool false, .int .u64 0, .int .u64 0] 52
        rw [World.size_alloc] at h
        exact h : Vs w wc.heap.size w1.heap.size (.slice ao1 l1 cap1) (.slice ao2 l2 cap2) U D X2 [.int .i64 t, .int .u64 0, .bool false, .int .u64 0, .int .u64 0])
      clear hX hu1 hd1 hb1H kr0 bw0
      generalize wc.heap.size = C at k
      generalize hA : w1.heap.size = a at k ⊢
      clear hA
      refine (units_e (4 * m) _ U D W x1 _ _ X2 C (by omega) k.out.hu k.out.hd (by omega) (by omega) hDp.out hU1.out hD1.out hWH.out h1H.out (by omega)).mono ?_
      rintro e y2 ⟨rfl, hb⟩
      replace k : Hid (Vs w C a (.slice ao1 l1 cap1) (.slice ao2 l2 cap2) U D y2 [.int .i64 t, .int .u64 0, .bool false, .int .u64 0, .int .u64 0]) := k.out.below hb
      clear hb
      have fs0a := k.out.ks.at' 0 _ rfl
      have fs1a := k.out.ks.at' 1 _ rfl
      have fv0a := k.out.kv.at' 0 _ rfl
      have gv0a := k.out.kv.free 0
      have fv1a := k.out.kv.at' 1 _ rfl
      have gv1a := k.out.kv.free 1
      have fv2a := k.out.kv.at' 2 _ rfl
      have gv2a := k.out.kv.free 2
      have fv3a := k.out.kv.at' 3 _ rfl
      have gv3a := k.out.kv.free 3
      have fv4a := k.out.kv.at' 4 _ rfl
      have gv4a := k.out.kv.free 4
      go_wp2_with fail
      clear fs0a fs1a fv0a gv0a fv1a gv1a fv2a gv2a fv3a gv3a fv4a gv4a
      generalize hX : ((y2.setCell ⟨a + 1, 1, none⟩ (.int .u64 (W : Int))).setCell ⟨a + 1, 2, none⟩ (.bool x1)) = X3
      replace k : Hid (Vs w C a (.slice ao1 l1 cap1) (.slice ao2 l2 cap2) U D X3 [.int .i64 t, .int .u64 (W : Int), .bool x1, .int .u64 0, .int .u64 0]) := by rw [← hX]; exact (k.out.set 1 (.int .u64 (W : Int)) (by simp)).set 2 (.bool x1) (by simp)
      clear hX
      refine (units_e B _ U D L x2 _ _ X3 C rfl k.out.hu k.out.hd hbq.out.1 hbq.out.2.2 hDp.out hU1.out hD1.out hLH.out h2H.out (by omega)).mono ?_
      rintro e y3 ⟨rfl, hb⟩
      replace k : Hid (Vs w C a (.slice ao1 l1 cap1) (.slice ao2 l2 cap2) U D y3 [.int .i64 t, .int .u64 (W : Int), .bool x1, .int .u64 0, .int .u64 0]) := k.out.below hb
      clear hb
      have fs0b := k.out.ks.at' 0 _ rfl
      have fs1b := k.out.ks.at' 1 _ rfl
      have fv0b := k.out.kv.at' 0 _ rfl
      have gv0b := k.out.kv.free 0
      have fv1b := k.out.kv.at' 1 _ rfl
      have gv1b := k.out.kv.free 1
      have fv2b := k.out.kv.at' 2 _ rfl
      have gv2b := k.out.kv.free 2
      have fv3b := k.out.kv.at' 3 _ rfl
      have gv3b := k.out.kv.free 3
      have fv4b := k.out.kv.at' 4 _ rfl
      have gv4b := k.out.kv.free 4
      go_upto_region 9 with fail
      clear fs0b fs1b fv0b gv0b fv1b gv1b fv2b gv2b fv3b gv3b fv4b gv4b
      generalize hX : (y3.setCell ⟨a + 1, 3, none⟩ (.int .u64 (L : Int))) = X4
      replace k : Hid (Vs w C a (.slice ao1 l1 cap1) (.slice ao2 l2 cap2) U D X4 [.int .i64 t, .int .u64 (W : Int), .bool x1, .int .u64 (L : Int), .int .u64 0]) := by rw [← hX]; exact k.out.set 3 (.int .u64 (L : Int)) (by simp)
      clear hX
      obtain ⟨c1, hc1⟩ : ∃ c1 : Bool, decide (x2 = false ∨ m % 2 = 1) = c1 := ⟨_, rfl⟩
      have hc1H : Hid (decide (x2 = false ∨ m % 2 = 1) = c1) := hc1
      clear hc1
      go_cut [55] (fun sb wx => sb = .bool c1 ∧ wx = X4)
      case first =>
        cases x2
        · have hv : Hid (true = c1) := (by rw [← hc1H.out]; simp : true = c1)
          go_wp2_with fail
          go_meet
          case rel => exact ⟨congrArg Value.bool hv.out, rfl⟩
        · by_cases hodd : m % 2 = 1
          · have ho : (((m : Int)) % 2 == 1) = true := beq_iff_eq.2 (by omega)
            have hv : Hid (true = c1) := (by rw [← hc1H.out]; simp [hodd] : true = c1)
            go_wp2_with fail
            go_meet
            case rel => exact ⟨congrArg Value.bool hv.out, rfl⟩
          · have ho : (((m : Int)) % 2 == 1) = false := beq_eq_false_iff_ne.2 (by omega)
            have hv : Hid (false = c1) := (by rw [← hc1H.out]; simp [hodd] : false = c1)
            go_wp2_with fail
            go_meet
            case rel => exact ⟨congrArg Value.bool hv.out, rfl⟩
      case rest =>
        obtain ⟨rfl, rfl⟩ := hcut
        go_upto_if 55 with fail
        obtain ⟨LE, hLE⟩ : ∃ LE, L + (if x2 = false ∨ m % 2 = 1 then 1 else 0) = LE := ⟨_, rfl⟩
        have hLEH : Hid (Rd.lea (Rd.bot E m) U D m = LE) := hLe.out.trans hLE
        go_cut [] (fun wx => Hid (Vs w C a (.slice ao1 l1 cap1) (.slice ao2 l2 cap2) U D wx [.int .i64 t, .int .u64 (W : Int), .bool x1, .int .u64 (LE : Int), .int .u64 0]))
        case first =>
          have fs0c := k.out.ks.at' 0 _ rfl
          have fs1c := k.out.ks.at' 1 _ rfl
          have fv0c := k.out.kv.at' 0 _ rfl
          have gv0c := k.out.kv.free 0
          have fv1c := k.out.kv.at' 1 _ rfl
          have gv1c := k.out.kv.free 1
          have fv2c := k.out.kv.at' 2 _ rfl
          have gv2c := k.out.kv.free 2
          have fv3c := k.out.kv.at' 3 _ rfl
          have gv3c := k.out.kv.free 3
          have fv4c := k.out.kv.at' 4 _ rfl
          have gv4c := k.out.kv.free 4
          cases hcc : c1
          · have hv : L = LE := (by
              have := hc1H.out; rw [hcc] at this
              rw [← hLE, if_neg (of_decide_eq_false this)]; rfl)
            have hk : Hid (Vs w C a (.slice ao1 l1 cap1) (.slice ao2 l2 cap2) U D wc [.int .i64 t, .int .u64 (W : Int), .bool x1, .int .u64 (LE : Int), .int .u64 0]) := (by have := k.out; rw [hv] at this; exact this : Vs w C a (.slice ao1 l1 cap1) (.slice ao2 l2 cap2) U D wc [.int .i64 t, .int .u64 (W : Int), .bool x1, .int .u64 (LE : Int), .int .u64 0])
            clear hv hLE hLEH
            go_wp2_with fail
            go_meet
            case rel => exact hk
          · have hv : L + 1 = LE := (by
              have := hc1H.out; rw [hcc] at this
              rw [← hLE, if_pos (of_decide_eq_true this)])
            have hvI : (L : Int) + 1 = (LE : Int) := by omega
            have hk : Hid (Vs w C a (.slice ao1 l1 cap1) (.slice ao2 l2 cap2) U D (wc.setCell ⟨a + 1, 3, none⟩ (.int .u64 (LE : Int))) [.int .i64 t, .int .u64 (W : Int), .bool x1, .int .u64 (LE : Int), .int .u64 0]) := k.out.set 3 (.int .u64 (LE : Int)) (by simp)
            clear hv hLE hLEH
            go_wp2_with fail
            go_meet
            case rel => exact hk
        case rest =>
        clear k
        have k := hcut
        clear hcut hLE
        have fs0d := k.out.ks.at' 0 _ rfl
        have fs1d := k.out.ks.at' 1 _ rfl
        have fv0d := k.out.kv.at' 0 _ rfl
        have gv0d := k.out.kv.free 0
        have fv1d := k.out.kv.at' 1 _ rfl
        have gv1d := k.out.kv.free 1
        have fv2d := k.out.kv.at' 2 _ rfl
        have gv2d := k.out.kv.free 2
        have fv3d := k.out.kv.at' 3 _ rfl
        have gv3d := k.out.kv.free 3
        have fv4d := k.out.kv.at' 4 _ rfl
        have gv4d := k.out.kv.free 4
        go_wp2_with fail
        clear fs0d fs1d fv0d gv0d fv1d gv1d fv2d gv2d fv3d gv3d fv4d gv4d
        refine (units_e (Rd.top m) _ U D T x3 _ _ wc C (by unfold Rd.top; omega) k.out.hu k.out.hd (by unfold Rd.top; omega) (by unfold Rd.top; omega) hDp.out hU1.out hD1.out hTH.out h3H.out (by omega)).mono ?_
        rintro e y4 ⟨rfl, hb⟩
        replace k : Hid (Vs w C a (.slice ao1 l1 cap1) (.slice ao2 l2 cap2) U D y4 [.int .i64 t, .int .u64 (W : Int), .bool x1, .int .u64 (LE : Int), .int .u64 0]) := k.out.below hb
        clear hb
        have fs0e := k.out.ks.at' 0 _ rfl
        have fs1e := k.out.ks.at' 1 _ rfl
        have fv0e := k.out.kv.at' 0 _ rfl
        have gv0e := k.out.kv.free 0
        have fv1e := k.out.kv.at' 1 _ rfl
        have gv1e := k.out.kv.free 1
        have fv2e := k.out.kv.at' 2 _ rfl
        have gv2e := k.out.kv.free 2
        have fv3e := k.out.kv.at' 3 _ rfl
        have gv3e := k.out.kv.free 3
        have fv4e := k.out.kv.at' 4 _ rfl
        have gv4e := k.out.kv.free 4
        go_upto_region 12 with fail
        clear fs0e fs1e fv0e gv0e fv1e gv1e fv2e gv2e fv3e gv3e fv4e gv4e
        generalize hX : (y4.setCell ⟨a + 1, 4, none⟩ (.int .u64 (T : Int))) = X5
        replace k : Hid (Vs w C a (.slice ao1 l1 cap1) (.slice ao2 l2 cap2) U D X5 [.int .i64 t, .int .u64 (W : Int), .bool x1, .int .u64 (LE : Int), .int .u64 (T : Int)]) := by rw [← hX]; exact k.out.set 4 (.int .u64 (T : Int)) (by simp)
        clear hX
        obtain ⟨c2, hc2⟩ : ∃ c2 : Bool, decide (x3 = true ∧ m % 2 = 1) = c2 := ⟨_, rfl⟩
        have hc2H : Hid (decide (x3 = true ∧ m % 2 = 1) = c2) := hc2
        clear hc2
        go_cut [72] (fun sb wx => sb = .bool c2 ∧ wx = X5)
        case first =>
          cases x3
          · have hv : Hid (false = c2) := (by rw [← hc2H.out]; simp : false = c2)
            go_wp2_with fail
            go_meet
            case rel => exact ⟨congrArg Value.bool hv.out, rfl⟩
          · by_cases hodd : m % 2 = 1
            · have ho : (((m : Int)) % 2 == 1) = true := beq_iff_eq.2 (by omega)
              have hv : Hid (true = c2) := (by rw [← hc2H.out]; simp [hodd] : true = c2)
              go_wp2_with fail
              go_meet
              case rel => exact ⟨congrArg Value.bool hv.out, rfl⟩
            · have ho : (((m : Int)) % 2 == 1) = false := beq_eq_false_iff_ne.2 (by omega)
              have hv : Hid (false = c2) := (by rw [← hc2H.out]; simp [hodd] : false = c2)
              go_wp2_with fail
              go_meet
              case rel => exact ⟨congrArg Value.bool hv.out, rfl⟩
        case rest =>
        obtain ⟨rfl, rfl⟩ := hcut
        go_upto_if 72 with fail
        obtain ⟨MO, hMO⟩ : ∃ MO, T - (if x3 = true ∧ m % 2 = 1 then 1 else 0) = MO := ⟨_, rfl⟩
        have hMOH : Hid (Rd.mos (Rd.top m) U D m = MO) := hMo.out.trans hMO
        go_cut [] (fun wx => Hid (Vs w C a (.slice ao1 l1 cap1) (.slice ao2 l2 cap2) U D wx [.int .i64 t, .int .u64 (W : Int), .bool x1, .int .u64 (LE : Int), .int .u64 (MO : Int)]))
        case first =>
          have fs0f := k.out.ks.at' 0 _ rfl
          have fs1f := k.out.ks.at' 1 _ rfl
          have fv0f := k.out.kv.at' 0 _ rfl
          have gv0f := k.out.kv.free 0
          have fv1f := k.out.kv.at' 1 _ rfl
          have gv1f := k.out.kv.free 1
          have fv2f := k.out.kv.at' 2 _ rfl
          have gv2f := k.out.kv.free 2
          have fv3f := k.out.kv.at' 3 _ rfl
          have gv3f := k.out.kv.free 3
          have fv4f := k.out.kv.at' 4 _ rfl
          have gv4f := k.out.kv.free 4
          cases hcc : c2
          · have hv : T = MO := (by
              have := hc2H.out; rw [hcc] at this
              rw [← hMO, if_neg (of_decide_eq_false this)]; rfl)
            have hk : Hid (Vs w C a (.slice ao1 l1 cap1) (.slice ao2 l2 cap2) U D wc [.int .i64 t, .int .u64 (W : Int), .bool x1, .int .u64 (LE : Int), .int .u64 (MO : Int)]) := (by have := k.out; rw [hv] at this; exact this : Vs w C a (.slice ao1 l1 cap1) (.slice ao2 l2 cap2) U D wc [.int .i64 t, .int .u64 (W : Int), .bool x1, .int .u64 (LE : Int), .int .u64 (MO : Int)])
            clear hv hMO hMOH
            go_wp2_with fail
            go_meet
            case rel => exact hk
          · have hv : T - 1 = MO := (by
              have := hc2H.out; rw [hcc] at this
              rw [← hMO, if_pos (of_decide_eq_true this)])
            have hvI : (T : Int) - 1 = (MO : Int) := by omega
            have hk : Hid (Vs w C a (.slice ao1 l1 cap1) (.slice ao2 l2 cap2) U D (wc.setCell ⟨a + 1, 4, none⟩ (.int .u64 (MO : Int))) [.int .i64 t, .int .u64 (W : Int), .bool x1, .int .u64 (LE : Int), .int .u64 (MO : Int)]) := k.out.set 4 (.int .u64 (MO : Int)) (by simp)
            clear hv hMO hMOH
            go_wp2_with fail
            go_meet
            case rel => exact hk
        case rest =>
        clear k
        have k := hcut
        clear hcut hMO
        have fs0g := k.out.ks.at' 0 _ rfl
        have fs1g := k.out.ks.at' 1 _ rfl
        have fv0g := k.out.kv.at' 0 _ rfl
        have gv0g := k.out.kv.free 0
        have fv1g := k.out.kv.at' 1 _ rfl
        have gv1g := k.out.kv.free 1
        have fv2g := k.out.kv.at' 2 _ rfl
        have gv2g := k.out.kv.free 2
        have fv3g := k.out.kv.at' 3 _ rfl
        have gv3g := k.out.kv.free 3
        have fv4g := k.out.kv.at' 4 _ rfl
        have gv4g := k.out.kv.free 4
        have fr0 := k.out.kr.at' 0 _ rfl
        have gr0 := k.out.kr.free 0
        have fr1 := k.out.kr.at' 1 _ rfl
        have gr1 := k.out.kr.free 1
        have fr2 := k.out.kr.at' 2 _ rfl
        have gr2 := k.out.kr.free 2
        have fr3 := k.out.kr.at' 3 _ rfl
        have gr3 := k.out.kr.free 3
        have fr4 := k.out.kr.at' 4 _ rfl
        have gr4 := k.out.kr.free 4
        have ne1 : ¬ (a + 1 = w.heap.size) := by have := k.out.lt; omega
        have ne2 : ¬ (w.heap.size = a + 1) := by have := k.out.lt; omega
        go_wp2
        generalize hX : (((((wc.setCell ⟨w.heap.size, 0, none⟩ (.int .i64 t)).setCell ⟨w.heap.size, 1, none⟩ (.int .u64 (W : Int))).setCell ⟨w.heap.size, 2, none⟩ (.bool x1)).setCell ⟨w.heap.size, 3, none⟩ (.int .u64 (LE : Int))).setCell ⟨w.heap.size, 4, none⟩ (.int .u64 (MO : Int))) = Z
        have kz : Cells Z w.heap.size [.int .i64 t, .int .u64 (W : Int), .bool x1, .int .u64 (LE : Int), .int .u64 (MO : Int)] := by rw [← hX]; exact (((((k.out.kr.set 0 (.int .i64 t) (by simp)).set 1 (.int .u64 (W : Int)) (by simp)).set 2 (.bool x1) (by simp)).set 3 (.int .u64 (LE : Int)) (by simp)).set 4 (.int .u64 (MO : Int)) (by simp))
        have bz : Below w.heap.size w Z := by rw [← hX]; exact (((((k.out.bw.setCell (p := ⟨w.heap.size, 0, none⟩) (Nat.le_refl _) (.int .i64 t)).setCell (p := ⟨w.heap.size, 1, none⟩) (Nat.le_refl _) (.int .u64 (W : Int))).setCell (p := ⟨w.heap.size, 2, none⟩) (Nat.le_refl _) (.bool x1)).setCell (p := ⟨w.heap.size, 3, none⟩) (Nat.le_refl _) (.int .u64 (LE : Int))).setCell (p := ⟨w.heap.size, 4, none⟩) (Nat.le_refl _) (.int .u64 (MO : Int)))
        clear hX
        have z0 := kz.at' 0 _ rfl
        have z1 := kz.at' 1 _ rfl
        have z2 := kz.at' 2 _ rfl
        have z3 := kz.at' 3 _ rfl
        have z4 := kz.at' 4 _ rfl
        refine bodyPost_ret (v := .agg #[.int .i64 t, .int .u64 (W : Int), .bool x1, .int .u64 (LE : Int), .int .u64 (MO : Int)]) (by simp [results, Tryd.results41, go_sem, z0, z1, z2, z3, z4]) rfl ?_
        exact ⟨by rw [hLEH.out, hMOH.out], bz⟩
end Go.Proofs.YtmfnjmgdindlaaaDoor
