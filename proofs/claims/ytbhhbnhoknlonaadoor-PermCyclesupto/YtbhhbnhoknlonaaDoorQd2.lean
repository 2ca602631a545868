/-
  Contracts of package perm: product, withDigit.
-/
import Derived.Test.YtbhhbnhoknlonaaDoorQd1
import Derived.Test.YtbhhbnhoknlonaaDoorNum
import Derived.Test.YtbhhbnhoknlonaaDoorMod
import Derived.Laws.OwnMore
import Derived.OwnWalk
namespace Go.Proofs.YtbhhbnhoknlonaaDoor
open Flo Go.RowKit

theorem errLength_cell {w : World} {al : List Addr} (he : Errs w al) : w.cell? ⟨7, 0, none⟩ = some (ek al 6) := by
  obtain ⟨a0, a1, a2, a3, a4, a5, a6, a7, a8, a9, a10, a11, a12, a13, a14, a15, a16, a17, a18, rfl⟩ := he.len
  obtain ⟨_, _, _, _, _, _, h, _⟩ := he.sent
  exact h
theorem errPerm_cell {w : World} {al : List Addr} (he : Errs w al) : w.cell? ⟨0, 0, none⟩ = some (ek al 11) := by
  obtain ⟨a0, a1, a2, a3, a4, a5, a6, a7, a8, a9, a10, a11, a12, a13, a14, a15, a16, a17, a18, rfl⟩ := he.len
  obtain ⟨_, _, _, _, _, _, _, _, _, _, _, h, _⟩ := he.sent
  exact h
/-- the three sentinels that package perm answers -/
structure E3 (w : World) (al : List Addr) : Prop where
  range : w.cell? ⟨5, 0, none⟩ = some (ek al 4)
  len : w.cell? ⟨7, 0, none⟩ = some (ek al 6)
  perm3 : w.cell? ⟨0, 0, none⟩ = some (ek al 11)
theorem Errs.e3 {w : World} {al : List Addr} (h : Errs w al) : E3 w al := ⟨errRange_cell h, errLength_cell h, errPerm_cell h⟩
theorem E3.below {w w' : World} {al : List Addr} (h : E3 w al) (hb : Below w.heap.size w w') : E3 w' al :=
  ⟨(hb.cell (p := ⟨5, 0, none⟩) (cell_lt h.range)).trans h.range, (hb.cell (p := ⟨7, 0, none⟩) (cell_lt h.len)).trans h.len, (hb.cell (p := ⟨0, 0, none⟩) (cell_lt h.perm3)).trans h.perm3⟩
theorem eql_self (al : List Addr) (j : Nat) (w : World) : (binOp .eql 28 (ek al j) (ek al j)).run Tryd.prog w = .ok (.bool true) w := by
  obtain ⟨i, d, hi, ci, hd, _⟩ := err_info
  unfold ek ev
  exact run_eql_iface_ptr_same w _ Tryd.underlying28 Tryd.underlying66 hi ci hd
set_option maxHeartbeats 2000000 in
theorem product_c (v : Value) (rs : List Int) (w : World) (al : List Addr) (he : E3 w al) (hR : RdZ w v rs) (hn : rs.length ≤ 17592186043904) :
    Calls Tryd.prog 30 #[v] w fun e w' => (∃ k, w' = w.drewN k) ∧
      ((dgE rs = 0 ∧ e = .returned (.tuple #[.int .i64 ((Dgx.pn rs rs.length : Nat) : Int), .nilIface])) ∨ (dgE rs = 5 ∧ e = .returned (.tuple #[.int .i64 0, ek al 4])) ∨ (dgE rs = 7 ∧ e = .returned (.tuple #[.int .i64 0, ek al 6]))) := by
  have hv1 : Hid (w.cell? ⟨5, 0, none⟩ = some (ek al 4)) := he.range
  have hv2 : Hid (w.cell? ⟨7, 0, none⟩ = some (ek al 6)) := he.len
  clear he
  obtain ⟨ao, cap, rfl, hrd⟩ := hR
  have hRH : Hid (rs ≠ [] → ∃ b off, ao = some ⟨b, off, none⟩ ∧ b < w.heap.size ∧ ∀ i, i < rs.length → w.cell? ⟨b, off + i, none⟩ = some (.int .i64 (rs.getD i 0))) := hrd
  obtain ⟨n, hnn⟩ : ∃ n, rs.length = n := ⟨_, rfl⟩
  have hnH : Hid (rs.length = n) := hnn
  rw [hnn] at hn ⊢
  clear hrd hnn
  go_enter Tryd.func30, Tryd.ntmps30
  go_wp2
  go_loopw [5, 11] (fun _ si wx => ∃ i : Nat, i ≤ n ∧ si = .int .i64 (i : Int) ∧ wx = w ∧ Hid (∀ j, j < i → 1 ≤ rs.getD j 0)) (fun _ si _ => n - (intOf si).toNat)
  case atStart => exact ⟨0, Nat.zero_le _, rfl, rfl, fun j hj => absurd hj (by omega)⟩
  case round =>
    obtain ⟨i, hi, rfl, rfl, hok⟩ := hrel
    by_cases hlt : i < n
    · have hlt' : (i : Int) < (n : Int) := by omega
      have hil : i < rs.length := by rw [hnH.out]; exact hlt
      obtain ⟨b, off, rfl, hbw, hcell⟩ := hRH.out (fun e => by rw [e] at hil; simp at hil)
      have c1 := hcell i hil
      obtain ⟨x, hx⟩ : ∃ x, rs.getD i 0 = x := ⟨_, rfl⟩
      have hxH : Hid (rs.getD i 0 = x) := hx
      rw [hx] at c1
      clear hcell hx
      by_cases x1 : x < 1
      · have hf : Hid (dgE rs = 5) := dgE_5 hil (by rw [hxH.out]; exact x1)
        have hv := hv1.out
        clear hok
        go_wp2
        go_quiet (fail)
        go_wp2
        go_ret2
        exact ⟨⟨_, rfl⟩, .inr (.inl ⟨hf.out, rfl⟩)⟩
      · have d1 : decide (x < 1) = false := decide_eq_false x1
        have hok2 : Hid (∀ j, j < i + 1 → 1 ≤ rs.getD j 0) := fun j hj => if e : j = i then by rw [e, hxH.out]; omega else hok.out j (by omega)
        clear hok
        go_wp2
        go_roundw
        case rel => exact ⟨i + 1, by omega, by go_num, trivial, hok2⟩
        case measure => simp [intOf]; omega
    · have hlt' : decide ((i : Int) < (n : Int)) = false := decide_eq_false (by omega)
      have hokH : Hid (Dgx.ok rs) := fun j hj => hok.out j (by rw [hnH.out] at hj; omega)
      clear hok
      go_wp2
      clear hlt'
      go_loopw [6, 8, 21] (fun sn _ si wx => ∃ i P : Nat, i ≤ n ∧ si = .int .i64 (i : Int) ∧ sn = .int .i64 (P : Int) ∧ 1 ≤ P ∧ P ≤ 16384 ∧ Hid (P = Dgx.pn rs i) ∧ wx = wr) (fun _ _ si _ => n - (intOf si).toNat)
      case atStart => exact ⟨0, 1, Nat.zero_le _, rfl, rfl, by omega, by omega, rfl, rfl⟩
      case round =>
        clear hi hlt
        obtain ⟨i, P, hi, rfl, rfl, hP1, hP2, hPH, rfl⟩ := hrel
        by_cases hlt : i < n
        · have hlt' : (i : Int) < (n : Int) := by omega
          have hil : i < rs.length := by rw [hnH.out]; exact hlt
          obtain ⟨b, off, rfl, hbw, hcell⟩ := hRH.out (fun e => by rw [e] at hil; simp at hil)
          have c1 := hcell i hil
          obtain ⟨y, hy⟩ : ∃ y : Nat, rs.getD i 0 = (y : Int) := ⟨(rs.getD i 0).toNat, by have := hokH.out i hil; omega⟩
          have hy1 : 1 ≤ y := by have := hokH.out i hil; omega
          have hpn : Hid (Dgx.pn rs (i + 1) = P * y) := (by
            show Dgx.pn rs i * Dgx.rx rs i = _
            rw [← hPH.out]; unfold Dgx.rx; rw [hy, Int.toNat_natCast] : Dgx.pn rs (i + 1) = P * y)
          rw [hy] at c1
          obtain ⟨q, hq⟩ : ∃ q : Nat, q = 16384 / P := ⟨_, rfl⟩
          have hq2 : q ≤ 16384 := by rw [hq]; exact Nat.div_le_self _ _
          have eq1 : (16384 : Int) / (P : Int) = (q : Int) := by
            rw [show (16384 : Int) / (P : Int) = ((16384 / P : Nat) : Int) from rfl, ← hq]
          have dz : ((P : Int) == 0) = false := beq_eq_false_iff_ne.2 (by omega)
          have hqle : y ≤ q ↔ P * y ≤ 16384 := by rw [hq, Nat.le_div_iff_mul_le (by omega), Nat.mul_comm]
          clear hcell hy
          by_cases hyq : q < y
          · have hyq' : (q : Int) < (y : Int) := by omega
            have hf : Hid (dgE rs = 7) := dgE_7 hokH.out (show i + 1 ≤ rs.length by omega) (by rw [hpn.out]; apply Nat.lt_of_not_le; intro c; have := hqle.2 c; omega)
            have hv := hv2.out
            clear hq hqle
            go_wp2
            go_quiet (fail)
            go_wp2
            go_ret2
            exact ⟨⟨_, rfl⟩, .inr (.inr ⟨hf.out, rfl⟩)⟩
          · have hyq' : decide ((q : Int) < (y : Int)) = false := decide_eq_false (by omega)
            have hyn : ¬ q < y := hyq
            obtain ⟨t, ht⟩ : ∃ t : Nat, t = P * y := ⟨_, rfl⟩
            have ht2 : t ≤ 16384 := by rw [ht]; exact hqle.1 (by omega)
            have ht1 : 1 ≤ t := by rw [ht]; exact Nat.mul_le_mul hP1 hy1
            have et : wrap64 ((P : Int) * (y : Int)) = (t : Int) := by rw [castMul, ← ht]; unfold wrap64; omega
            have hpn2 : Hid (t = Dgx.pn rs (i + 1)) := (by rw [hpn.out, ht] : t = Dgx.pn rs (i + 1))
            clear hq hqle ht
            go_wp2
            go_roundw
            case rel => exact ⟨i + 1, t, by omega, by go_num, by first | rfl | go_num, ht1, ht2, hpn2, trivial⟩
            case measure => simp [intOf]; omega
        · have hlt' : decide ((i : Int) < (n : Int)) = false := decide_eq_false (by omega)
          have ei : i = n := by omega
          subst ei
          have hPH2 : Hid (P = Dgx.pn rs rs.length) := (by rw [hnH.out]; exact hPH.out : P = Dgx.pn rs rs.length)
          have hf : Hid (dgE rs = 0) := dgE_0 hokH.out (by rw [← hPH2.out]; exact hP2)
          go_wp2
          go_ret2
          exact ⟨⟨0, rfl⟩, .inl ⟨hf.out, by rw [← hPH.out]; rfl⟩⟩
set_option maxHeartbeats 2000000 in
theorem withDigit_1 (v : Value) (w : World) :
    Calls Tryd.prog 31 #[v, .int .i64 1] w fun e w' => e = .returned v ∧ w' = w := by
  go_enter Tryd.func31, Tryd.ntmps31
  go_wp2
  go_ret
  exact ⟨rfl, rfl⟩
/-- a row whose first i are multiplied -/
def h1f (h : Nat → Nat) (r i : Nat) : Nat → Nat := fun k => if k < i then h k * r else h k
/-- a row with one digit more -/
def hdf (h : Nat → Nat) (r had : Nat) : Nat → Nat := fun k => h (k % had) * r + k / had
theorem h1f_step (h : Nat → Nat) (r i n : Nat) : (fl (h1f h r i) n).set i (.int .i64 ((h i * r : Nat) : Int)) = fl (h1f h r (i + 1)) n := by
  rw [fl_set]
  apply fl_congr
  intro k _
  unfold h1f
  by_cases c : k = i
  · subst c; simp
  · rw [if_neg c]
    by_cases c2 : k < i
    · rw [if_pos c2, if_pos (by omega)]
    · rw [if_neg c2, if_neg (by omega)]
theorem h1f_end (h : Nat → Nat) (r had : Nat) : fl (h1f h r had) had = fl (hdf h r had) had := by
  apply fl_congr
  intro k hk
  unfold h1f hdf
  rw [if_pos hk, Nat.mod_eq_of_lt hk, Nat.div_eq_of_lt hk, Nat.add_zero]
theorem hdf_low (h : Nat → Nat) (r : Nat) {had i : Nat} (hi : i < had) : hdf h r had i = h i * r := by
  unfold hdf
  rw [Nat.mod_eq_of_lt hi, Nat.div_eq_of_lt hi, Nat.add_zero]
theorem hdf_at (h : Nat → Nat) (r : Nat) {had i d : Nat} (hi : i < had) : hdf h r had (d * had + i) = h i * r + d := by
  unfold hdf
  rw [Nat.mul_comm d had, Nat.mul_add_mod, Nat.mod_eq_of_lt hi, Nat.mul_add_div (by omega), Nat.div_eq_of_lt hi, Nat.add_zero]
theorem ownsRow_form {W : World} {base : Nat} {e : TypeId} {size : Nat} {v : Value} {k : Nat} {xs : List Value} (h : W.ownsRow base e size v k xs) (hk : 0 < k) : ∃ g c, v = .slice (some ⟨g, 0, none⟩) k c ∧ k ≤ c ∧ base ≤ g ∧ g < W.heap.size := by
  rcases h.2 with ⟨_, h⟩ | ⟨g, cap, cur, rfl, h1, h2, h3, _⟩
  · omega
  · exact ⟨g, cap, rfl, h3, h1, (Array.getElem?_eq_some_iff.1 h2).1⟩
set_option maxHeartbeats 4000000 in
theorem withDigit_c (B : Nat) (v : Value) (had r : Nat) (h : Nat → Nat) (w : World) (hown : w.ownsRow B 3 1 v had (fl h had)) (_hB : B ≤ w.heap.size) (hh : 1 ≤ had) (hr : 2 ≤ r) (hp : had * r ≤ 16384) (hhb : ∀ i, h i < 16384) :
    Calls Tryd.prog 31 #[v, .int .i64 (r : Int)] w fun e w' => ∃ v', e = .returned v' ∧ w'.ownsRow B 3 1 v' (had * r) (fl (hdf h r had) (had * r)) ∧ Below B w w' := by
  obtain ⟨i0, hi0, hz0, hz1, hz2⟩ := info_parts infoInt
  have hh2 : had ≤ 16384 := Nat.le_trans (Nat.le_mul_of_pos_right had (by omega)) hp
  have hr2 : r ≤ 16384 := Nat.le_trans (Nat.le_mul_of_pos_left r (by omega)) hp
  have hpH : Hid (had * r ≤ 16384) := hp
  have hhbH : Hid (∀ i, h i < 16384) := hhb
  obtain ⟨g, cap, rfl, hcap, hg1, hg2⟩ := ownsRow_form hown (by omega)
  have hrow0 : Hid (w.ownsRow B 3 1 (.slice (some ⟨g, 0, none⟩) had cap) had (fl h had)) := hown
  clear hown hhb hp
  have e1 : ((r : Int) == 1) = false := beq_eq_false_iff_ne.2 (by omega)
  go_enter Tryd.func31, Tryd.ntmps31
  go_wp2
  clear e1
  go_loopw [5, 14] (fun _ si wx => ∃ i : Nat, i ≤ had ∧ si = .int .i64 (i : Int) ∧ Hid (wx.ownsRow B 3 1 (.slice (some ⟨g, 0, none⟩) had cap) had (fl (h1f h r i) had)) ∧ Hid (Below B w wx)) (fun _ si _ => had - (intOf si).toNat)
  case atStart => exact ⟨0, Nat.zero_le _, rfl, (by rw [show fl (h1f h r 0) had = fl h had from fl_congr fun k _ => by unfold h1f; rw [if_neg (by omega)]]; exact hrow0.out), Below.refl _ _⟩
  case round =>
    obtain ⟨i, hi, rfl, hrow, hb⟩ := hrel
    by_cases hlt : i < had
    · have hlt' : (i : Int) < (had : Int) := by omega
      have c1 := hrow.out.cellAt i (by omega)
      rw [fl_get _ hlt, show h1f h r i i = h i by unfold h1f; rw [if_neg (by omega)]] at c1
      have f1 := hrow.out.frozenAt i
      have hst := (hrow.out.stored i (.int .i64 ((h i * r : Nat) : Int))).1
      rw [h1f_step] at hst
      have hx := hhbH.out i
      obtain ⟨x, hxe⟩ : ∃ x : Nat, h i = x := ⟨_, rfl⟩
      rw [hxe] at c1 hst hx
      obtain ⟨z, hz⟩ : ∃ z : Nat, z = x * r := ⟨_, rfl⟩
      have hz3 : z ≤ 268435456 := by rw [hz]; exact Nat.mul_le_mul (show x ≤ 16384 by omega) hr2
      have ez : wrap64 ((x : Int) * (r : Int)) = (z : Int) := by rw [castMul, ← hz]; unfold wrap64; omega
      rw [← hz] at hst
      have hst1 : Hid ((wr.setCell ⟨g, i, none⟩ (.int .i64 (z : Int))).ownsRow B 3 1 (.slice (some ⟨g, 0, none⟩) had cap) had (fl (h1f h r (i + 1)) had)) := hst
      have hb2 : Hid (Below B w (wr.setCell ⟨g, i, none⟩ (.int .i64 (z : Int)))) := hb.out.setCell (p := ⟨g, i, none⟩) hg1 _
      clear hst hz hxe hrow hb
      go_wp2
      go_roundw
      case rel => exact ⟨i + 1, by omega, by go_num, hst1, hb2⟩
      case measure => simp [intOf]; omega
    · have hlt' : decide ((i : Int) < (had : Int)) = false := decide_eq_false (by omega)
      have ei : i = had := by omega
      subst ei
      have hrow2 : Hid (wr.ownsRow B 3 1 (.slice (some ⟨g, 0, none⟩) i cap) (1 * i) (fl (hdf h r i) (1 * i))) := (by rw [Nat.one_mul, ← h1f_end]; exact hrow.out : wr.ownsRow B 3 1 (.slice (some ⟨g, 0, none⟩) i cap) (1 * i) (fl (hdf h r i) (1 * i)))
      clear hrow hrow0
      go_wp2
      clear hlt' hi hlt
      obtain ⟨n, hn⟩ : ∃ n : Nat, n = i := ⟨_, rfl⟩
      go_loopw [0, 7, 8] (fun sv sd _ wx => ∃ d : Nat, 1 ≤ d ∧ d ≤ r ∧ sd = .int .i64 (d : Int) ∧ Hid (wx.ownsRow B 3 1 sv (d * i) (fl (hdf h r i) (d * i))) ∧ Hid (Below B w wx)) (fun _ sd _ _ => r - (intOf sd).toNat)
      case atStart => exact ⟨1, by omega, by omega, rfl, hrow2, hb⟩
      case round =>
        clear hrow2 hb
        obtain ⟨d, hd1, hd2, rfl, hrow, hb⟩ := hrel
        by_cases hlt : d < r
        · have hlt' : (d : Int) < (r : Int) := by omega
          go_wp2
          clear hlt'
          go_loopw [0, 8, 33] (fun sv _ si wx => ∃ k : Nat, k ≤ i ∧ si = .int .i64 (k : Int) ∧ Hid (wx.ownsRow B 3 1 sv (d * i + k) (fl (hdf h r i) (d * i + k))) ∧ Hid (Below B w wx)) (fun _ _ si _ => i - (intOf si).toNat)
          case atStart => exact ⟨0, Nat.zero_le _, rfl, hrow, hb⟩
          case round =>
            clear hrow hb
            obtain ⟨k, hk, rfl, hrow, hb⟩ := hrel
            by_cases hlk : k < i
            · have hlk' : (k : Int) < (i : Int) := by omega
              have hdi : i ≤ d * i := Nat.le_mul_of_pos_left i (by omega)
              have hdr : d * i + k < 16384 := by
                have := Nat.mul_le_mul_right i (show d + 1 ≤ r by omega)
                rw [Nat.add_mul, Nat.one_mul] at this
                have := hpH.out
                rw [Nat.mul_comm i r] at this
                omega
              obtain ⟨m, hm⟩ : ∃ m : Nat, m = d * i + k := ⟨_, rfl⟩
              have hmH : Hid (m = d * i + k) := hm
              have hkm : k < m := by omega
              have hkm' : (k : Int) < (m : Int) := by omega
              have hsn : Hid (fl (hdf h r i) (m + 1) = fl (hdf h r i) m ++ [.int .i64 ((h k * r + d : Nat) : Int)]) := (by rw [fl_snoc, hm, hdf_at h r hlk] : fl (hdf h r i) (m + 1) = fl (hdf h r i) m ++ [.int .i64 ((h k * r + d : Nat) : Int)])
              rw [← hm] at hrow hdr
              obtain ⟨g2, c2, rfl, hc2, hg3, hg4⟩ := ownsRow_form hrow.out (by omega)
              have c1 := hrow.out.cellAt k (by omega)
              rw [fl_get _ hkm, hdf_low h r hlk] at c1
              have hx := hhbH.out k
              obtain ⟨x, hxe⟩ : ∃ x : Nat, h k = x := ⟨_, rfl⟩
              rw [hxe] at c1 hsn hx
              obtain ⟨z, hz⟩ : ∃ z : Nat, z = x * r := ⟨_, rfl⟩
              have hz3 : z ≤ 268435456 := by rw [hz]; exact Nat.mul_le_mul (show x ≤ 16384 by omega) hr2
              rw [← hz] at hsn c1
              obtain ⟨y, hy⟩ : ∃ y : Nat, y = z + d := ⟨_, rfl⟩
              have ey : wrap64 ((z : Int) + (d : Int)) = (y : Int) := by unfold wrap64; omega
              have ey2 : (z : Int) + (d : Int) = (y : Int) := by omega
              rw [← hy] at hsn
              have hown := hrow.out
              have hsz := hb.out.size
              clear hm hdi hz hxe hx hy
              go_wp2_with (at_builtin; refine wpList_append_own _ rfl _ _ 22 rfl B 3 i0 (.int .i64 0) 1 8 Tryd.underlying22 hi0 hz0 hz1 hz2 rfl (by decide) _ _ _ rfl (hown.alloc _) ⟨wr.heap.size, 0, none⟩ 1 1 [.int .i64 (y : Int)] rfl rfl ?c1 ?c2 ?c3 ?c4 ?c5 ?_)
              case c1 =>
                intro j u hj
                match j, hj with
                | 0, hj => simp at hj; subst hj; simp [Addr.add]
              case c2 => intro u hu; simp at hu; subst hu; rfl
              case c3 => unfold maxLen; omega
              case c4 => omega
              case c5 => simp; omega
              · intro v' w3 hown' hgrow hnil
                have hbl' : Hid (Below B w w3) := (hb.out.alloc (by omega) _).grown hgrow (by simp; omega) (fun k' hk' => (hown.lt k' hk').1)
                rw [← hsn.out] at hown'
                have hown2 : Hid (w3.ownsRow B 3 1 v' (d * i + (k + 1)) (fl (hdf h r i) (d * i + (k + 1)))) := (by rw [← Nat.add_assoc, ← hmH.out]; exact hown' : w3.ownsRow B 3 1 v' (d * i + (k + 1)) (fl (hdf h r i) (d * i + (k + 1))))
                clear hown hown' hgrow hnil hb hrow c1 ey ey2
                go_wp2
                go_roundw
                case rel => exact ⟨k + 1, by omega, by go_num, hown2, hbl'⟩
                case measure => simp [intOf]; omega
            · have hlk' : decide ((k : Int) < (i : Int)) = false := decide_eq_false (by omega)
              have ek : k = i := by omega
              subst ek
              have hrow2 : Hid (wr.ownsRow B 3 1 u0 ((d + 1) * k) (fl (hdf h r k) ((d + 1) * k))) := (by rw [Nat.add_mul, Nat.one_mul]; exact hrow.out : wr.ownsRow B 3 1 u0 ((d + 1) * k) (fl (hdf h r k) ((d + 1) * k)))
              clear hrow
              go_wp2
              go_roundw
              case rel => exact ⟨d + 1, by omega, by omega, by go_num, hrow2, hb⟩
              case measure => simp [intOf]; omega
        · have hlt' : decide ((d : Int) < (r : Int)) = false := decide_eq_false (by omega)
          have ed : d = r := by omega
          subst ed
          have hrow2 : Hid (wr.ownsRow B 3 1 u0 (i * d) (fl (hdf h d i) (i * d))) := (by rw [Nat.mul_comm i d]; exact hrow.out : wr.ownsRow B 3 1 u0 (i * d) (fl (hdf h d i) (i * d)))
          clear hrow
          go_wp2
          go_ret
          exact ⟨_, rfl, hrow2.out, hb.out⟩
end Go.Proofs.YtbhhbnhoknlonaaDoor
