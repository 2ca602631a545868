/-
  The contract of the document's Digits.
-/
import Derived.Test.YtbhhbnhoknlonaaDoorQd1
import Derived.Test.YtbhhbnhoknlonaaDoorPq2
namespace Go.Proofs.YtbhhbnhoknlonaaDoor
open Flo Go.RowKit

theorem rx_le {rs : List Int} (h : Dgx.ok rs) {j : Nat} (hj : j < rs.length) : Dgx.rx rs j ≤ Dgx.pn rs (j + 1) := Nat.le_mul_of_pos_left _ (Dgx.pn_pos h (by omega))
set_option maxHeartbeats 4000000 in
theorem r6Digits_c (v : Value) (rs : List Int) (w : World) (hR : RdZ w v rs) (hn : rs.length ≤ 17592186043904) :
    Calls Tryd.prog 23 #[v] w fun e w' => ∃ v', e = .returned (.tuple #[v', .int .i64 ((dgE rs : Nat) : Int)]) ∧ w'.ownsRow w.heap.size 3 1 v' (dgL rs).length (iz (dgL rs)) ∧ Below w.heap.size w w' := by
  obtain ⟨i0, hi0, hz0, hz1, hz2⟩ := info_parts infoInt
  obtain ⟨ao, cap, rfl, hrd⟩ := hR
  have hRH : Hid (rs ≠ [] → ∃ b off, ao = some ⟨b, off, none⟩ ∧ b < w.heap.size ∧ ∀ i, i < rs.length → w.cell? ⟨b, off + i, none⟩ = some (.int .i64 (rs.getD i 0))) := hrd
  obtain ⟨n, hnn⟩ : ∃ n, rs.length = n := ⟨_, rfl⟩
  have hnH : Hid (rs.length = n) := hnn
  rw [hnn] at hn ⊢
  clear hrd hnn
  go_enter Tryd.func23, Tryd.ntmps23
  go_wp2
  go_loopw [5, 17] (fun _ si wx => ∃ i : Nat, i ≤ n ∧ si = .int .i64 (i : Int) ∧ wx = w ∧ Hid (∀ j, j < i → 1 ≤ rs.getD j 0)) (fun _ si _ => n - (intOf si).toNat)
  case atStart => exact ⟨0, Nat.zero_le _, rfl, rfl, fun j hj => absurd hj (by omega)⟩
  case round =>
    obtain ⟨i, hi, rfl, rfl, hok⟩ := hrel
    by_cases hlt : i < n
    · have hlt' : (i : Int) < (n : Int) := by omega
      have hil : i < rs.length := by rw [hnH.out]; exact hlt
      obtain ⟨b, off, rfl, hbw, hcell⟩ := hRH.out (fun e => by rw [e] at hil; simp at hil)
      have c1 := hcell i hil
      obtain ⟨x, hx⟩ : ∃ x, rs.getD i 0 = x := ⟨_, rfl⟩
      have hxH : Hid (rs.getD i 0 = x) := hx
      rw [hx] at c1
      clear hcell hx
      by_cases x1 : x < 1
      · have hf : Hid (dgE rs = 5 ∧ dgL rs = []) := ⟨dgE_5 hil (by rw [hxH.out]; exact x1), dgL_no (by rw [dgE_5 hil (by rw [hxH.out]; exact x1)]; decide)⟩
        clear hok
        go_wp2
        go_ret2
        exact ⟨_, ret_vi (by rw [hf.out.1]; rfl), by rw [hf.out.2]; exact emptyI _ _ (Nat.le_refl _), (Below.refl _ _).alloc (Nat.le_refl _) _⟩
      · have d1 : decide (x < 1) = false := decide_eq_false x1
        have hok2 : Hid (∀ j, j < i + 1 → 1 ≤ rs.getD j 0) := fun j hj => if e : j = i then by rw [e, hxH.out]; omega else hok.out j (by omega)
        clear hok
        go_wp2
        go_roundw
        case rel => exact ⟨i + 1, by omega, by go_num, trivial, hok2⟩
        case measure => simp [intOf]; omega
    · have hlt' : decide ((i : Int) < (n : Int)) = false := decide_eq_false (by omega)
      have hokH : Hid (Dgx.ok rs) := fun j hj => hok.out j (by rw [hnH.out] at hj; omega)
      clear hok
      go_wp2
      clear hlt'
      go_loopw [6, 8, 27] (fun sn _ si wx => ∃ i P : Nat, i ≤ n ∧ si = .int .i64 (i : Int) ∧ sn = .int .i64 (P : Int) ∧ 1 ≤ P ∧ P ≤ 16384 ∧ Hid (P = Dgx.pn rs i) ∧ wx = wr) (fun _ _ si _ => n - (intOf si).toNat)
      case atStart => exact ⟨0, 1, Nat.zero_le _, rfl, rfl, by omega, by omega, rfl, rfl⟩
      case round =>
        clear hi hlt
        obtain ⟨i, P, hi, rfl, rfl, hP1, hP2, hPH, rfl⟩ := hrel
        by_cases hlt : i < n
        · have hlt' : (i : Int) < (n : Int) := by omega
          have hil : i < rs.length := by rw [hnH.out]; exact hlt
          obtain ⟨b, off, rfl, hbw, hcell⟩ := hRH.out (fun e => by rw [e] at hil; simp at hil)
          have c1 := hcell i hil
          obtain ⟨y, hy⟩ : ∃ y : Nat, rs.getD i 0 = (y : Int) := ⟨(rs.getD i 0).toNat, by have := hokH.out i hil; omega⟩
          have hy1 : 1 ≤ y := by have := hokH.out i hil; omega
          have hpn : Hid (Dgx.pn rs (i + 1) = P * y) := (by
            show Dgx.pn rs i * Dgx.rx rs i = _
            rw [← hPH.out]; unfold Dgx.rx; rw [hy, Int.toNat_natCast] : Dgx.pn rs (i + 1) = P * y)
          rw [hy] at c1
          obtain ⟨q, hq⟩ : ∃ q : Nat, q = 16384 / P := ⟨_, rfl⟩
          have hq2 : q ≤ 16384 := by rw [hq]; exact Nat.div_le_self _ _
          have eq1 : (16384 : Int) / (P : Int) = (q : Int) := by
            rw [show (16384 : Int) / (P : Int) = ((16384 / P : Nat) : Int) from rfl, ← hq]
          have dz : ((P : Int) == 0) = false := beq_eq_false_iff_ne.2 (by omega)
          have hqle : y ≤ q ↔ P * y ≤ 16384 := by rw [hq, Nat.le_div_iff_mul_le (by omega), Nat.mul_comm]
          clear hcell hy
          by_cases hyq : q < y
          · have hyq' : (q : Int) < (y : Int) := by omega
            have h7 : dgE rs = 7 := dgE_7 hokH.out (show i + 1 ≤ rs.length by omega) (by rw [hpn.out]; apply Nat.lt_of_not_le; intro c; have := hqle.2 c; omega)
            have hf : Hid (dgE rs = 7 ∧ dgL rs = []) := ⟨h7, dgL_no (by omega)⟩
            clear hq hqle h7
            go_wp2
            go_ret2
            exact ⟨_, ret_vi (by rw [hf.out.1]; rfl), by rw [hf.out.2]; exact emptyI _ _ (Nat.le_refl _), (Below.refl _ _).alloc (Nat.le_refl _) _⟩
          · have hyq' : decide ((q : Int) < (y : Int)) = false := decide_eq_false (by omega)
            have hyn : ¬ q < y := hyq
            obtain ⟨t, ht⟩ : ∃ t : Nat, t = P * y := ⟨_, rfl⟩
            have ht2 : t ≤ 16384 := by rw [ht]; exact hqle.1 (by omega)
            have ht1 : 1 ≤ t := by rw [ht]; exact Nat.mul_le_mul hP1 hy1
            have et : wrap64 ((P : Int) * (y : Int)) = (t : Int) := by rw [castMul, ← ht]; unfold wrap64; omega
            have hpn2 : Hid (t = Dgx.pn rs (i + 1)) := (by rw [hpn.out, ht] : t = Dgx.pn rs (i + 1))
            clear hq hqle ht
            go_wp2
            go_roundw
            case rel => exact ⟨i + 1, t, by omega, by go_num, by first | rfl | go_num, ht1, ht2, hpn2, trivial⟩
            case measure => simp [intOf]; omega
        · have hlt' : decide ((i : Int) < (n : Int)) = false := decide_eq_false (by omega)
          have hPH2 : Hid (P = Dgx.pn rs rs.length) := (by rw [hnH.out, ← show i = n by omega]; exact hPH.out : P = Dgx.pn rs rs.length)
          have hE : Hid (dgE rs = 0) := dgE_0 hokH.out (by rw [← hPH2.out]; exact hP2)
          clear hPH hP1
          go_wp2
          clear hlt' hlt hi
          obtain ⟨wo, rfl⟩ : ∃ wo, wo = wr := ⟨_, rfl⟩
          go_loopw [9, 10, 11, 12, 14] (fun sv si _ _ _ wx => ∃ x : Nat, x ≤ P ∧ si = .int .i64 (x : Int) ∧ Hid (wx.ownsRow wo.heap.size 3 1 sv x (fl (fun x => Dgx.tn rs x rs.length) x)) ∧ Hid (Below wo.heap.size wo wx)) (fun _ si _ _ _ _ => P - (intOf si).toNat)
          case atStart => exact ⟨0, Nat.zero_le _, rfl, emptyI wo _ (Nat.le_refl _), (Below.refl _ _).alloc (Nat.le_refl _) _⟩
          case round =>
            obtain ⟨x, hx, rfl, hrow, hb⟩ := hrel
            by_cases hxP : x < P
            · have hxP' : (x : Int) < (P : Int) := by omega
              go_wp2
              clear hxP'
              go_loopw [11, 12, 14, 49] (fun sr st _ sj wx => ∃ j R T : Nat, j ≤ n ∧ sj = .int .i64 (j : Int) ∧ sr = .int .i64 (R : Int) ∧ st = .int .i64 (T : Int) ∧ R ≤ 16384 ∧ T ≤ 16384 ∧ Hid (R = x / Dgx.pn rs j) ∧ Hid (T = Dgx.tn rs x j) ∧ wx = wr) (fun _ _ _ sj _ => n - (intOf sj).toNat)
              case atStart => exact ⟨0, x, 0, Nat.zero_le _, rfl, rfl, rfl, by omega, by omega, (Nat.div_one x).symm, rfl, rfl⟩
              case round =>
                obtain ⟨j, R, T, hj, rfl, rfl, rfl, hR2, hT2, hRe, hTe, rfl⟩ := hrel
                by_cases hlt : j < n
                · have hlt' : (j : Int) < (n : Int) := by omega
                  have hil : j < rs.length := by rw [hnH.out]; exact hlt
                  obtain ⟨b, off, rfl, hbw, hcell⟩ := hRH.out (fun e => by rw [e] at hil; simp at hil)
                  obtain ⟨y, hy⟩ : ∃ y : Nat, rs.getD j 0 = (y : Int) := ⟨(rs.getD j 0).toNat, by have := hokH.out j hil; omega⟩
                  have hy1 : 1 ≤ y := by have := hokH.out j hil; omega
                  have c1 : wr.cell? ⟨b, off + j, none⟩ = some (.int .i64 (y : Int)) := by
                    rw [← hy]; exact (hb.out.cell (p := ⟨b, off + j, none⟩) hbw).trans (hcell j hil)
                  have hrx : Dgx.rx rs j = y := by unfold Dgx.rx; rw [hy, Int.toNat_natCast]
                  have hpn2 : Dgx.pn rs (j + 1) ≤ 16384 := Nat.le_trans (Dgx.pn_mono hokH.out (show j + 1 ≤ rs.length by omega) (Nat.le_refl _)) (by rw [← hPH2.out]; exact hP2)
                  have hy2 : y ≤ 16384 := by have := rx_le hokH.out hil; omega
                  have hT3 : Dgx.tn rs x (j + 1) < 16384 := Nat.lt_of_lt_of_le (Dgx.tn_lt hokH.out x (by omega)) hpn2
                  have dz : ((y : Int) == 0) = false := beq_eq_false_iff_ne.2 (by omega)
                  obtain ⟨a, ha⟩ : ∃ a : Nat, a = T * y := ⟨_, rfl⟩
                  have ha2 : a ≤ 268435456 := by rw [ha]; exact Nat.mul_le_mul hT2 hy2
                  have e1 : wrap64 ((T : Int) * (y : Int)) = (a : Int) := by rw [castMul, ← ha]; unfold wrap64; omega
                  obtain ⟨c, hc⟩ : ∃ c : Nat, c = R % y := ⟨_, rfl⟩
                  have e2 : (R : Int) % (y : Int) = (c : Int) := by rw [hc]; rfl
                  have hc2 : c ≤ 16384 := by rw [hc]; exact Nat.le_trans (Nat.mod_le _ _) hR2
                  obtain ⟨q, hq⟩ : ∃ q : Nat, q = R / y := ⟨_, rfl⟩
                  have e3 : (R : Int) / (y : Int) = (q : Int) := by rw [hq]; rfl
                  have hq2 : q ≤ 16384 := by rw [hq]; exact Nat.le_trans (Nat.div_le_self _ _) hR2
                  obtain ⟨T2, hT4⟩ : ∃ T2 : Nat, T2 = a + c := ⟨_, rfl⟩
                  have e4 : (a : Int) + (c : Int) = (T2 : Int) := by rw [hT4, Int.natCast_add]
                  have hTe2 : Hid (T2 = Dgx.tn rs x (j + 1)) := (by
                    rw [hT4, ha, hc]; show _ = Dgx.tn rs x j * Dgx.rx rs j + (x / Dgx.pn rs j) % Dgx.rx rs j
                    rw [hrx, ← hRe.out, ← hTe.out] : T2 = Dgx.tn rs x (j + 1))
                  have hRe2 : Hid (q = x / Dgx.pn rs (j + 1)) := (by rw [hq, ← Dgx.div_step, hrx, ← hRe.out] : q = x / Dgx.pn rs (j + 1))
                  have hT5 : T2 ≤ 16384 := by rw [hTe2.out]; omega
                  have hj1 : j + 1 ≤ n := hlt
                  clear hcell hy hT3 hpn2 hrx ha hc hq hT4
                  go_wp2
                  clear e1 e2 e3 e4 dz ha2 hc2 hy2 hR2 hT2
                  go_roundw
                  case rel => exact ⟨j + 1, q, T2, hj1, by go_num, rfl, rfl, hq2, hT5, hRe2, hTe2, trivial⟩
                  case measure => simp [intOf]; omega
                · have hlt' : decide ((j : Int) < (n : Int)) = false := decide_eq_false (by omega)
                  have hTe2 : Hid (fl (fun x => Dgx.tn rs x rs.length) (x + 1) = fl (fun x => Dgx.tn rs x rs.length) x ++ [.int .i64 (T : Int)]) := (by
                    rw [fl_snoc, hTe.out, show j = rs.length by rw [hnH.out]; omega] : fl (fun x => Dgx.tn rs x rs.length) (x + 1) = fl (fun x => Dgx.tn rs x rs.length) x ++ [.int .i64 (T : Int)])
                  have hown := hrow.out
                  have hsz := hb.out.size
                  clear hRe hTe
                  go_wp2_with (at_builtin; refine wpList_append_own _ rfl _ _ 22 rfl wo.heap.size 3 i0 (.int .i64 0) 1 8 Tryd.underlying22 hi0 hz0 hz1 hz2 rfl (by decide) _ _ _ rfl (hown.alloc _) ⟨wr.heap.size, 0, none⟩ 1 1 [.int .i64 (T : Int)] rfl rfl ?c1 ?c2 ?c3 ?c4 ?c5 ?_)
                  case c1 =>
                    intro j u hj
                    match j, hj with
                    | 0, hj => simp at hj; subst hj; simp [Addr.add]
                  case c2 => intro u hu; simp at hu; subst hu; rfl
                  case c3 => unfold maxLen; omega
                  case c4 => omega
                  case c5 => simp; omega
                  · intro v' w3 hown' hgrow hnil
                    have hbl' : Hid (Below wo.heap.size wo w3) := (hb.out.alloc (by omega) _).grown hgrow (by simp; omega) (fun k' hk' => (hown.lt k' hk').1)
                    rw [← hTe2.out] at hown'
                    have hown2 : Hid (w3.ownsRow wo.heap.size 3 1 v' (x + 1) (fl (fun x => Dgx.tn rs x rs.length) (x + 1))) := hown'
                    clear hown hown' hgrow hnil hb hrow
                    go_wp2
                    go_roundw
                    case rel => exact ⟨x + 1, by omega, by go_num, hown2, hbl'⟩
                    case measure => simp [intOf]; omega
            · have hxP' : decide ((x : Int) < (P : Int)) = false := decide_eq_false (by omega)
              have ex : x = P := by omega
              subst ex
              go_wp2
              go_ret2
              refine ⟨_, ret_vi (by rw [hE.out]; rfl), ?_, hb.out⟩
              rw [dgL_iz hE.out, dgL_len hE.out, ← hPH2.out]
              exact hrow.out
end Go.Proofs.YtbhhbnhoknlonaaDoor
