/-
  Contract of the document's After of layer 6.
-/
import Derived.Test.YtbhhbnhoknlonaaDoorPq2
namespace Go.Proofs.YtbhhbnhoknlonaaDoor
open Flo Go.RowKit

/-- first q, then p -/
def afL (p q : List Int) (i : Nat) : List Int := (p.take i).map fun x => q.getD x.toNat 0
def afZ (p q : List Int) : List Int × Int := if ckB p && ckB q then (if p.length = q.length then (afL p q p.length, 0) else ([], 7)) else ([], 12)
theorem afL_snoc {p q : List Int} {i : Nat} {y : Nat} (h : i < p.length) (hy : p.getD i 0 = (y : Int)) : afL p q (i + 1) = afL p q i ++ [q.getD y 0] := by
  unfold afL
  rw [List.take_succ_eq_append_getElem h, List.map_append]
  have e : p[i] = (y : Int) := by rw [← hy]; simp [List.getD, h]
  simp [e]
theorem afL_len {p q : List Int} {i : Nat} (h : i ≤ p.length) : (afL p q i).length = i := by unfold afL; simp; omega
set_option maxHeartbeats 4000000 in
theorem r6After_c (vp vq : Value) (p q : List Int) (w : World) (hP : RdZ w vp p) (hQ : RdZ w vq q) (hn : p.length ≤ 1099511627776) (hm : q.length ≤ 1099511627776) :
    Calls Tryd.prog 15 #[vp, vq] w fun e w' => ∃ v', e = .returned (.tuple #[v', .int .i64 (afZ p q).2]) ∧ w'.ownsRow w.heap.size 3 1 v' (afZ p q).1.length (iz (afZ p q).1) ∧ Below w.heap.size w w' := by
  have hPH : Hid (RdZ w vp p) := hP
  have hQH : Hid (RdZ w vq q) := hQ
  obtain ⟨i0, hi, hz0, hz1, hz2⟩ := info_parts infoInt
  obtain ⟨ap, cp, rfl, hrp⟩ := hP
  obtain ⟨aq, cq, rfl, hrq⟩ := hQ
  have hpR : Hid (p ≠ [] → ∃ b off, ap = some ⟨b, off, none⟩ ∧ b < w.heap.size ∧ ∀ i, i < p.length → w.cell? ⟨b, off + i, none⟩ = some (.int .i64 (p.getD i 0))) := hrp
  have hqR : Hid (q ≠ [] → ∃ b off, aq = some ⟨b, off, none⟩ ∧ b < w.heap.size ∧ ∀ i, i < q.length → w.cell? ⟨b, off + i, none⟩ = some (.int .i64 (q.getD i 0))) := hrq
  clear hrp hrq
  go_enter Tryd.func15, Tryd.ntmps15
  go_wp2_with fail
  refine (r6Check_c _ p _ hPH.out hn).mono ?_
  rintro e w0 ⟨rfl, b0⟩
  have B0 : Hid (Below w.heap.size w w0) := b0
  clear b0 hPH
  cases hcp : ckB p
  · have hres : Hid (afZ p q = ([], 12)) := (by unfold afZ; rw [hcp]; rfl : afZ p q = ([], 12))
    rw [ckE_false hcp]
    clear hcp hQH
    go_wp2
    go_ret2
    exact ⟨_, ret_vi (by rw [hres.out]), by rw [hres.out]; exact emptyI w0 _ B0.out.size, B0.out.alloc B0.out.size _⟩
  · rw [ckE_true hcp]
    go_wp2_with fail
    have hQ0 : RdZ w0 (.slice aq q.length cq) q := hQH.out.below B0.out
    refine (r6Check_c _ q _ hQ0 hm).mono ?_
    rintro e w1 ⟨rfl, b1⟩
    have B1 : Hid (Below w.heap.size w w1) := B0.out.trans (b1.mono B0.out.size)
    clear b1 hQ0 B0 hQH
    cases hcq : ckB q
    · have hres : Hid (afZ p q = ([], 12)) := (by unfold afZ; rw [hcp, hcq]; rfl : afZ p q = ([], 12))
      rw [ckE_false hcq]
      clear hcp hcq
      go_wp2
      go_ret2
      exact ⟨_, ret_vi (by rw [hres.out]), by rw [hres.out]; exact emptyI w1 _ B1.out.size, B1.out.alloc B1.out.size _⟩
    · rw [ckE_true hcq]
      by_cases hl : p.length = q.length
      · have hres : Hid (afZ p q = (afL p q p.length, 0)) := (by unfold afZ; rw [hcp, hcq, Bool.and_self, if_pos rfl, if_pos hl] : afZ p q = (afL p q p.length, 0))
        have hok : Hid (∀ j, j < p.length → okAt p j) := ckB_iff.1 hcp
        have hlH : Hid (q.length = p.length) := hl.symm
        obtain ⟨n, hnn⟩ : ∃ n, p.length = n := ⟨_, rfl⟩
        have hnH : Hid (p.length = n) := hnn
        rw [← hl]
        rw [hnn] at hn hres ⊢
        clear hnn hcp hcq hl hm
        obtain ⟨wo, rfl⟩ : ∃ wo, wo = w1 := ⟨_, rfl⟩
        go_wp2
        go_loopw [6, 8, 27] (fun v _ si wx => ∃ i : Nat, i ≤ n ∧ si = .int .i64 (i : Int) ∧ wx.ownsRow wo.heap.size 3 1 v i (iz (afL p q i)) ∧ Below wo.heap.size wo wx) (fun _ _ si _ => n - (intOf si).toNat)
        case atStart => exact ⟨0, Nat.zero_le _, rfl, emptyI wo _ (Nat.le_refl _), (Below.refl _ _).alloc (Nat.le_refl _) _⟩
        case round =>
          obtain ⟨i, hi', rfl, hown, hb⟩ := hrel
          have hsz := hb.size
          by_cases hlt : i < n
          · have hlt' : (i : Int) < (n : Int) := by omega
            have hil : i < p.length := by rw [hnH.out]; exact hlt
            obtain ⟨b, off, rfl, hbw, hcell⟩ := hpR.out (fun e => by rw [e] at hil; simp at hil)
            obtain ⟨o1, o2, o3⟩ := hok.out i hil
            rw [hnH.out] at o2
            obtain ⟨y, hy⟩ : ∃ y : Nat, p.getD i 0 = (y : Int) := ⟨(p.getD i 0).toNat, by omega⟩
            have hyn : y < n := by omega
            have hyq : y < q.length := by rw [hlH.out, hnH.out]; exact hyn
            obtain ⟨bq, oq, rfl, hbq, hcq⟩ := hqR.out (fun e => by rw [e] at hyq; simp at hyq)
            have c1 : wr.cell? ⟨b, off + i, none⟩ = some (.int .i64 (y : Int)) := by
              rw [← hy]
              exact (hb.cell (p := ⟨b, off + i, none⟩) (Nat.lt_of_lt_of_le hbw B1.out.size)).trans ((B1.out.cell (p := ⟨b, off + i, none⟩) hbw).trans (hcell i hil))
            have c2 : wr.cell? ⟨bq, oq + y, none⟩ = some (.int .i64 (q.getD y 0)) := (hb.cell (p := ⟨bq, oq + y, none⟩) (Nat.lt_of_lt_of_le hbq B1.out.size)).trans ((B1.out.cell (p := ⟨bq, oq + y, none⟩) hbq).trans (hcq y hyq))
            have hsn : Hid (iz (afL p q (i + 1)) = iz (afL p q i) ++ [.int .i64 (q.getD y 0)]) := (by rw [afL_snoc hil hy, iz_snoc] : iz (afL p q (i + 1)) = iz (afL p q i) ++ [.int .i64 (q.getD y 0)])
            generalize q.getD y 0 = z at c2 hsn
            have hy' : (y : Int) < (n : Int) := by omega
            clear hcell hcq hy o1 o2 o3
            go_wp2_with (at_builtin; refine wpList_append_own _ rfl _ _ 22 rfl wo.heap.size 3 i0 (.int .i64 0) 1 8 Tryd.underlying22 hi hz0 hz1 hz2 rfl (by decide) _ _ _ rfl (hown.alloc _) ⟨wr.heap.size, 0, none⟩ 1 1 [.int .i64 z] rfl rfl ?c1 ?c2 ?c3 ?c4 ?c5 ?_)
            case c1 =>
              intro j u hj
              match j, hj with
              | 0, hj => simp at hj; subst hj; simp [Addr.add]
            case c2 => intro u hu; simp at hu; subst hu; rfl
            case c3 => unfold maxLen; omega
            case c4 => omega
            case c5 => simp; omega
            · intro v' w3 hown' hgrow hnil
              have hbl' : Below wo.heap.size wo w3 := (hb.alloc hsz _).grown hgrow (by simp; omega) (fun k' hk' => (hown.lt k' hk').1)
              rw [← hsn.out] at hown'
              clear hown hgrow hnil hb
              go_wp2
              go_roundw
              case rel => exact ⟨i + 1, by omega, by go_num, hown', hbl'⟩
              case measure => simp [intOf]; omega
          · have hlt' : decide ((i : Int) < (n : Int)) = false := decide_eq_false (by omega)
            have ei : i = n := by omega
            subst ei
            have hlen : (afL p q i).length = i := afL_len (by rw [hnH.out]; exact Nat.le_refl _)
            have hB : Hid (Below w.heap.size w wr) := B1.out.trans (hb.mono B1.out.size)
            have hs2 := B1.out.size
            clear hb
            go_wp2
            go_ret2
            refine ⟨_, ret_vi (by rw [hres.out]), ?_, hB.out⟩
            rw [hres.out]
            show wr.ownsRow w.heap.size 3 1 _ (afL p q i).length (iz (afL p q i))
            rw [hlen]
            obtain ⟨x1, x2⟩ := hown
            exact ⟨x1, x2.imp id (fun ⟨g, c, cu, y1, y2, y3⟩ => ⟨g, c, cu, y1, by omega, y3⟩)⟩
      · have hres : Hid (afZ p q = ([], 7)) := (by unfold afZ; rw [hcp, hcq, Bool.and_self, if_pos rfl, if_neg hl] : afZ p q = ([], 7))
        have q1 : ((p.length : Int) == (q.length : Int)) = false := beq_eq_false_iff_ne.2 (by omega)
        have q2 : ((p.length : Int) != (q.length : Int)) = true := by simp [bne, q1]
        clear hcp hcq hl
        go_wp2
        go_ret2
        exact ⟨_, ret_vi (by rw [hres.out]), by rw [hres.out]; exact emptyI w1 _ B1.out.size, B1.out.alloc B1.out.size _⟩
end Go.Proofs.YtbhhbnhoknlonaaDoor
