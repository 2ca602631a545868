/-
  OrderPlaces: the whole walk.
-/
import Derived.Test.YtjmjnljjdjhgpaaDoorOz2
namespace Go.Proofs.YtjmjnljjdjhgpaaDoor
open Flo Go.RowKit Tr
theorem Bt_ext (l : List UInt8) (i : Nat) : (Bt l).extract 0 i = Bt (l.take i) := by
  apply ByteArray.ext
  show ((Bt l).extract 0 i).data = _
  rw [ByteArray.data_extract]
  simp [Bt]
set_option maxHeartbeats 2000000 in
set_option maxRecDepth 100000 in
theorem orderPlaces.walk (l : List UInt8) (aL aT aO : Addr) (w : World) (hE : Eo w aL aT aO) (hl63 : l.length ≤ 9223372036854775807) : Calls Tryd.prog 7 #[.string (Bt l)] w fun e w' => e = .returned (.bool true) ∧ Below w.heap.size w w' := by
  have hEH : Hid (Eo w aL aT aO) := hE
  have hlI : Hid ((Bt l).size = l.length) := Bt_size l
  have hn1 := evnil
  have hn2 := evguard
  have hn3 := evnnil
  have hn4 := evguard2
  have hn5 := nilev
  have h63 : (Bt l).size ≤ 9223372036854775807 := by rw [hlI.out]; exact hl63
  clear hE
  go_enter Tryd.func7, Tryd.ntmps7
  go_wp2_with fail
  refine (lives_c w aL aT aO hEH.out).mono ?_
  rintro e w1 ⟨rfl, B1⟩
  have hB1 : Hid (Below w.heap.size w w1) := B1
  have hE1 : Hid (Eo w1 aL aT aO) := hEH.out.below B1
  clear B1
  by_cases h3 : ((Bt l).size : Int) > 300
  · go_wp2_with fail
    go_ret
    exact ⟨rfl, hB1.out⟩
  have h3' : decide (((Bt l).size : Int) > 300) = false := decide_eq_false h3
  have hll : l.length ≤ 300 := by rw [hlI.out] at h3; omega
  go_wp2_with fail
  refine (parse_c l aL aT aO w1 hE1.out).mono ?_
  rintro e w2 ⟨B2, v, rfl, s2, n2⟩
  have hE2 : Hid (Eo w2 aL aT aO) := hE1.out.below B2
  have hB2 : Hid (Below w.heap.size w w2) := btr hB1.out B2
  have hal : Hid (∀ o, Below w2.heap.size w2 (w2.alloc o)) := fun o => (Below.refl _ _).alloc (Nat.le_refl _) _
  obtain ⟨q, hq⟩ : ∃ q, Hid ((Ps.rd l).2 = q) := ⟨_, (rfl : _ = _)⟩
  have hql : q ≤ l.length := by rw [← hq.out]; exact Ps.rd_le l
  have hqs : q ≤ (Bt l).size := by rw [hlI.out]; exact hql
  have hbeg : Hid (∀ i, i ≤ l.length → ∀ W, Eo W aL aT aO → Calls Tryd.prog 29 #[.string (Bt (l.take i))] W fun e w' => e = .returned (.bool (decide ((i : Int) ≤ (q : Int)))) ∧ Below W.heap.size W w') := fun i hi W hW => by
    have := begins_c (l.take i) aL aT aO W hW (by rw [List.length_take]; omega)
    rw [Ps.rd_cut, hq.out, List.length_take, Nat.min_eq_left hi] at this
    have e : decide (min i q = i) = decide ((i : Int) ≤ (q : Int)) := by
      by_cases h : i ≤ q
      · rw [decide_eq_true (by omega), decide_eq_true (by omega)]
      · rw [decide_eq_false (by omega), decide_eq_false (by omega)]
    rw [e] at this; exact this
  -- the loop
  rcases Ps.prs_kind (l := l) (by omega) with ⟨⟨t, hp⟩, hq0⟩ | ⟨hp, hq0⟩ | hp
  · rw [hp] at s2 ⊢
    have ev0 : er aL aT aO 0 = .nilIface := rfl
    obtain ⟨va, vc, rfl⟩ := (s2 t rfl).shape
    have hqe : Hid (q = (Bt l).size) := by show _ = _; rw [← hq.out, hq0, hlI.out]
    clear hp hq0 s2 n2 B2
    show _
    rw [ev0]
    clear ev0
    generalize t.k = tk at *
    generalize t.n = tn at *
    generalize t.ks.length = tl at *
    obtain ⟨w3, e3⟩ : ∃ w3, Hid (w2.alloc (.cells #[.int .i64 tk, .int .i64 tn, .slice va tl vc] 24) = w3) := ⟨_, (rfl : _ = _)⟩
    have B3 : Hid (Below w2.heap.size w2 w3) := by show Below _ _ _; rw [← e3.out]; exact hal.out _
    have hE3 : Hid (Eo w3 aL aT aO) := hE2.out.below B3.out
    have hB3 : Hid (Below w.heap.size w w3) := btr hB2.out B3.out
    have cT := hE3.out.cT
    go_upto_region 5 with fail
    rw [e3.out]
    go_wp2_with fail
    clear cT
    go_loopw [8] (fun si wx => ∃ i : Nat, i ≤ (Bt l).size + 1 ∧ si = .int .i64 (i : Int) ∧ Hid (Below w.heap.size w wx) ∧ Hid (Eo wx aL aT aO)) (fun si _ => (Bt l).size + 1 - (intOf si).toNat)
    case atStart => exact ⟨0, Nat.zero_le _, rfl, hB3, hE3⟩
    case round =>
      obtain ⟨i, hi, rfl, hbr, hEr⟩ := hrel
      by_cases hlt : i ≤ (Bt l).size
      · have hlt' : (i : Int) ≤ ((Bt l).size : Int) := by omega
        have h300 : (Bt l).size ≤ 300 := by omega
        go_wp2_with fail
        rw [Bt_ext]
        refine (hbeg.out i (by rw [← hlI.out]; exact hlt) wr hEr.out).mono ?_
        rintro e w4 ⟨rfl, B4⟩
        have hB4 : Hid (Below w.heap.size w w4) := btr hbr.out B4
        have hE4 : Hid (Eo w4 aL aT aO) := hEr.out.below B4
        have hd : Hid (decide ((i : Int) ≤ (q : Int)) = true) := decide_eq_true (by have := hqe.out; omega)
        rw [hd.out]
        clear B4
        go_wp2_with fail
        go_roundw
        case rel => exact ⟨i + 1, by omega, by go_num, hB4, hE4⟩
        case measure => simp [intOf]; omega
      · have hlt' : decide ((i : Int) ≤ ((Bt l).size : Int)) = false := decide_eq_false (by omega)
        go_wp2_with fail
        go_ret
        exact ⟨rfl, hbr.out⟩
  · rw [hp] at n2 ⊢
    rw [n2 rfl]
    have hqe : Hid (q = (Bt l).size) := by show _ = _; rw [← hq.out, hq0, hlI.out]
    have ev0 : er aL aT aO 8 = ev aO := rfl
    show _
    rw [ev0]
    clear hp hq0 s2 n2 B2 ev0
    unfold zor
    obtain ⟨w3, e3⟩ : ∃ w3, Hid (w2.alloc (.cells #[.int .i64 0, .int .i64 0, .slice none 0 0] 24) = w3) := ⟨_, (rfl : _ = _)⟩
    have B3 : Hid (Below w2.heap.size w2 w3) := by show Below _ _ _; rw [← e3.out]; exact hal.out _
    have hE3 : Hid (Eo w3 aL aT aO) := hE2.out.below B3.out
    have hB3 : Hid (Below w.heap.size w w3) := btr hB2.out B3.out
    have X3 : Hid (Bo w3 w2.heap.size 0 0 (.slice none 0 0)) := by show Bo _ _ _ _ _; rw [← e3.out]; exact Bo.new _ _ _ _
    have x0 := X3.out.c0
    have x1 := X3.out.c1
    have x2 := X3.out.c2
    have cT := hE3.out.cT
    have cO := hE3.out.cO
    have hq1 := ev_ne hE3.out (a := aO) (b := aT) (by simp) (by simp) (fun e => hE3.out.nTO e.symm)
    have hq2 := neqv_self aO w3
    go_upto_region 5 with fail
    rw [e3.out]
    go_wp2_with fail
    clear cT cO x0 x1 x2 hq1 hq2
    go_loopw [8] (fun si wx => ∃ i : Nat, i ≤ (Bt l).size + 1 ∧ si = .int .i64 (i : Int) ∧ Hid (Below w.heap.size w wx) ∧ Hid (Eo wx aL aT aO)) (fun si _ => (Bt l).size + 1 - (intOf si).toNat)
    case atStart => exact ⟨0, Nat.zero_le _, rfl, hB3, hE3⟩
    case round =>
      obtain ⟨i, hi, rfl, hbr, hEr⟩ := hrel
      by_cases hlt : i ≤ (Bt l).size
      · have hlt' : (i : Int) ≤ ((Bt l).size : Int) := by omega
        have h300 : (Bt l).size ≤ 300 := by omega
        go_wp2_with fail
        rw [Bt_ext]
        refine (hbeg.out i (by rw [← hlI.out]; exact hlt) wr hEr.out).mono ?_
        rintro e w4 ⟨rfl, B4⟩
        have hB4 : Hid (Below w.heap.size w w4) := btr hbr.out B4
        have hE4 : Hid (Eo w4 aL aT aO) := hEr.out.below B4
        have hd : Hid (decide ((i : Int) ≤ (q : Int)) = true) := decide_eq_true (by have := hqe.out; omega)
        rw [hd.out]
        clear B4
        go_wp2_with fail
        go_roundw
        case rel => exact ⟨i + 1, by omega, by go_num, hB4, hE4⟩
        case measure => simp [intOf]; omega
      · have hlt' : decide ((i : Int) ≤ ((Bt l).size : Int)) = false := decide_eq_false (by omega)
        go_wp2_with fail
        go_ret
        exact ⟨rfl, hbr.out⟩
  · rw [hp] at n2 ⊢
    rw [n2 rfl]
    have ev0 : er aL aT aO 6 = ev aT := rfl
    show _
    rw [ev0, hq.out]
    clear hp s2 n2 B2 ev0
    unfold zor
    obtain ⟨w3, e3⟩ : ∃ w3, Hid (w2.alloc (.cells #[.int .i64 0, .int .i64 0, .slice none 0 0] 24) = w3) := ⟨_, (rfl : _ = _)⟩
    have B3 : Hid (Below w2.heap.size w2 w3) := by show Below _ _ _; rw [← e3.out]; exact hal.out _
    have hE3 : Hid (Eo w3 aL aT aO) := hE2.out.below B3.out
    have hB3 : Hid (Below w.heap.size w w3) := btr hB2.out B3.out
    have X3 : Hid (Bo w3 w2.heap.size 0 0 (.slice none 0 0)) := by show Bo _ _ _ _ _; rw [← e3.out]; exact Bo.new _ _ _ _
    have x0 := X3.out.c0
    have x1 := X3.out.c1
    have x2 := X3.out.c2
    have cT := hE3.out.cT
    have hq1 := eqv_self aT w3
    have hq3 : decide ((q : Int) > ((Bt l).size : Int)) = false := decide_eq_false (by omega)
    have hq4 : ¬ (Bt l).size < q := by omega
    have hq5 : decide ((Bt l).size < q) = false := decide_eq_false hq4
    have hq6 : decide ((q : Int) < 0) = false := decide_eq_false (by omega)
    have hq7 : ¬ (q : Int) < 0 := by omega
    go_upto_region 5 with fail
    rw [e3.out]
    go_wp2_with fail
    clear cT x0 x1 x2 hq1 hq3 hq4 hq5 hq6 hq7 hqs hql
    go_loopw [8] (fun si wx => ∃ i : Nat, i ≤ (Bt l).size + 1 ∧ si = .int .i64 (i : Int) ∧ Hid (Below w.heap.size w wx) ∧ Hid (Eo wx aL aT aO)) (fun si _ => (Bt l).size + 1 - (intOf si).toNat)
    case atStart => exact ⟨0, Nat.zero_le _, rfl, hB3, hE3⟩
    case round =>
      obtain ⟨i, hi, rfl, hbr, hEr⟩ := hrel
      by_cases hlt : i ≤ (Bt l).size
      · have hlt' : (i : Int) ≤ ((Bt l).size : Int) := by omega
        have h300 : (Bt l).size ≤ 300 := by omega
        go_wp2_with fail
        rw [Bt_ext]
        refine (hbeg.out i (by rw [← hlI.out]; exact hlt) wr hEr.out).mono ?_
        rintro e w4 ⟨rfl, B4⟩
        have hB4 : Hid (Below w.heap.size w w4) := btr hbr.out B4
        have hE4 : Hid (Eo w4 aL aT aO) := hEr.out.below B4
        by_cases hiq : (i : Int) ≤ (q : Int)
        · rw [decide_eq_true hiq]
          clear B4
          go_wp2_with fail
          go_roundw
          case rel => exact ⟨i + 1, by omega, by go_num, hB4, hE4⟩
          case measure => simp [intOf]; omega
        · have hiq' : decide ((i : Int) ≤ (q : Int)) = false := decide_eq_false hiq
          rw [hiq']
          clear B4
          go_wp2_with fail
          go_roundw
          case rel => exact ⟨i + 1, by omega, by go_num, hB4, hE4⟩
          case measure => simp [intOf]; omega
      · have hlt' : decide ((i : Int) ≤ ((Bt l).size : Int)) = false := decide_eq_false (by omega)
        go_wp2_with fail
        go_ret
        exact ⟨rfl, hbr.out⟩
theorem orderPlaces.walkB (x : ByteArray) (aL aT aO : Addr) (w : World) (hE : Eo w aL aT aO) (hx : x.size ≤ 9223372036854775807) : Calls Tryd.prog 7 #[.string x] w fun e w' => e = .returned (.bool true) ∧ Below w.heap.size w w' := by
  have := orderPlaces.walk x.data.toList aL aT aO w hE (by simpa using hx)
  rw [← Bt_of] at this; exact this
end Go.Proofs.YtjmjnljjdjhgpaaDoor
