/-
  The statement ListingCuts: the walk.
-/
import Derived.Test.YtebknahackkhnaaDoorSlv
import Derived.Test.YtebknahackkhnaaDoorLi1
import Derived.Test.YtebknahackkhnaaDoorSd4
namespace Go.Proofs.YtebknahackkhnaaDoor
open Flo Go.RowKit
theorem eq_same (al : List Addr) (j : Nat) (w : World) : (binOp .eql 29 (ek al j) (ek al j)).run Tryd.prog w = .ok (.bool true) w := by
  obtain ⟨i, d, hi, ci, hd, sd⟩ := err_info
  unfold ek ev
  exact run_eql_iface_ptr_same w _ Tryd.underlying29 Tryd.underlying144 hi ci hd
theorem guard_nil16 (op : BinOp) (t : TypeId) (x : Operand) (b : Value) (w : World) : (eqGuard op t x (.const .nilIface) .nilIface b).run Tryd.prog w = .ok () w := by
  cases op <;> cases b <;> first | rfl | (simp [eqGuard, go_sem]; done) | kernel_rfl
theorem ss_take {w : World} {ao : Option Addr} {ss : List Sp.St} (h : Ss w ao ss) (m : Nat) : Ss w ao (ss.take m) := fun i s hi => h i s (by
  rw [List.getElem?_take] at hi
  split at hi
  · exact hi
  · cases hi)
theorem OwS.sl17 {w : World} {B : Nat} {a : Option Addr} {m k : Nat} {ss : List Sp.St} (h : OwS w B (.slice a m k) ss) : Ss w a ss ∧ m = ss.length := by
  obtain ⟨ao, cap, h1, h2⟩ := h.ss
  injection h1 with e1 e2 _
  rw [e1]; exact ⟨h2, e2⟩
/-- a byte of a text -/
theorem tx_index (l : List UInt8) (i : Nat) (hi : i < l.length) (w : World) : (Instr.index 9 (.string (txb l)) (.int .i64 (i : Int))).run Tryd.prog w = .ok (.int .u8 ((l.getD i 0).toNat : Int)) w := by
  have hs : (i : Int) < (txb l).size := by show (i : Int) < (l.length : Int); omega
  rw [run_index_string w 9 (txb l) .i64 (i : Int) Tryd.underlying9, dif_pos ⟨by omega, hs⟩]
  congr 3
  simp [txb, List.getD, hi]
  rfl
theorem take_cnt (l : List UInt8) (i : Nat) (hi : i < l.length) : (l.take (i + 1)).count 10 = (l.take i).count 10 + (if l.getD i 0 = 10 then 1 else 0) := by
  rw [List.take_add_one, List.getElem?_eq_getElem hi, List.count_append]
  have e : l.getD i 0 = l[i] := by simp [List.getD, hi]
  rw [e]
  congr 1
  by_cases h : l[i] = 10
  · simp [h]
  · simp [h]
theorem take_last (l : List UInt8) (k : Nat) (hk : 0 < k) (hl : k ≤ l.length) : (l.take k).getLast? = some (l.getD (k - 1) 0) := by
  rw [List.getLast?_eq_getElem?, List.length_take, Nat.min_eq_left hl, List.getElem?_take, if_pos (by omega), List.getElem?_eq_getElem (by omega)]
  simp [List.getD, show k - 1 < l.length by omega]
theorem u10 (b : UInt8) : ((b.toNat : Int) == 10) = decide (b = 10) := by
  by_cases h : b = 10
  · rw [decide_eq_true h, h]; rfl
  · rw [decide_eq_false h]
    refine beq_eq_false_iff_ne.2 fun e => h ?_
    have h10 : (10 : UInt8).toNat = 10 := rfl
    exact UInt8.toNat_inj.1 (by omega)
theorem step_cut (ao : Option Addr) (n c m : Nat) (h : m ≤ c) (W : World) : (Instr.slice 22 (.slice ao n c) none (some (.int .i64 (m : Int))) none).run Tryd.prog W = .ok (.slice ao m c) W := by
  have ht : Tryd.prog.underlying 22 = some (.slice (Tryd.prog.elem 22)) := by kernel_rfl
  have hz : ∃ z, (sizeOf (Tryd.prog.elem 22)).run Tryd.prog W = .ok z W := ⟨7, by kernel_rfl⟩
  obtain ⟨z, hz⟩ := hz
  rw [run_slice_h W 22 ao n c ht .i64 (m : Int) (by omega) (by omega), hz]
  cases ao <;> simp [sliced, go_sem]
set_option maxHeartbeats 16000000 in
set_option maxRecDepth 100000 in
theorem listingCuts.walk (p : Sp.Pg) (ao : Option Addr) (c : Nat) (at_ : Int) (al : List Addr) (w : World) (ha : Ss w ao p.steps) (hb : p.steps.length * 56 ≤ 140737488351232) (hcap : p.steps.length ≤ c) (hin : Pin p) (hL : Lf w al) :
    Calls Tryd.prog 6 #[pv p (.slice ao p.steps.length c), .int .i64 at_] w fun e w' => e = .returned (.bool true) ∧ Below w.heap.size w w' := by
  obtain ⟨n, hn⟩ := hid_ex3 p.steps.length
  rw [hn.out] at hb hcap ⊢
  obtain ⟨bp, hbp⟩ := hid_ex3 w.heap.size
  obtain ⟨w1, ew1⟩ := hid_ex3 (w.alloc (.cells #[.int .i64 p.len, .int .i64 p.cells, .int .i64 p.inn, .int .i64 p.out, .slice ao n c] 24))
  have B1 : Hid (Below w.heap.size w w1) := by rw [← ew1.out]; exact (Below.refl _ _).alloc (Nat.le_refl _) _
  have X1 : Hid (Bpg w1 bp p (.slice ao n c)) := by rw [← ew1.out, ← hbp.out]; exact Bpg.new w p (.slice ao n c)
  have LH : Hid (Lf w al) := hL
  have aH : Hid (Ss w ao p.steps) := ha
  have bH : Hid (n * 56 ≤ 140737488351232) := hb
  have inH : Hid (Pin p) := hin
  have hlv : Hid (Calls Tryd.prog 7 #[] w1 fun e w' => e = .returned (.bool true) ∧ Below w1.heap.size w1 w') := llives_c al w1 (hL.le.below B1.out)
  have htx : Hid (∀ (W : World), Below w.heap.size w W → Calls Tryd.prog 8 #[.agg #[.int .i64 p.len, .int .i64 p.cells, .int .i64 p.inn, .int .i64 p.out, .slice ao n c]] W fun e w' => e = .returned (txv al p) ∧ Below W.heap.size W w') := fun W hW => by
    have h1 := ltext_c p ao c W al (aH.out.below hW) (by rw [hn.out]; exact bH.out) inH.out (LH.out.le.below hW)
    rw [hn.out] at h1
    exact h1
  clear ha hb hin hL
  unfold pv
  go_enter Tryd.func6, Tryd.ntmps6
  go_upto_region 1 with fail
  rw [ew1.out, hbp.out]
  go_wp2_with fail
  refine hlv.out.mono ?_
  rintro e w2 ⟨rfl, B2⟩
  have R2 : Hid (Below w.heap.size w w2) := B1.out.trans (B2.mono B1.out.size)
  have X2 : Hid (Bpg w2 bp p (.slice ao n c)) := X1.out.below B2
  clear B2 hlv X1
  obtain ⟨x0, x1, x2, x3, x4⟩ := X2.out
  go_wp2_with fail
  refine (htx.out w2 R2.out).mono ?_
  rintro e w3 ⟨rfl, B3⟩
  have R3 : Hid (Below w.heap.size w w3) := R2.out.trans (B3.mono R2.out.size)
  have X3 : Hid (Bpg w3 bp p (.slice ao n c)) := X2.out.below B3
  clear x0 x1 x2 x3 x4 B3 X2 htx
  unfold txv
  cases hall : p.steps.all Sp.fm with
  | false =>
    have hq := nnil_c al 8
    have hgd := guard_c al 8
    have x4 := X3.out.c4
    simp only [cond_false]
    go_wp2
    go_ret
    exact ⟨rfl, R3.out⟩
  | true =>
    have hfs : Hid (∀ s ∈ p.steps, Sp.fm s = true) := List.all_eq_true.1 hall
    simp only [cond_true]
    have x4 := X3.out.c4
    have hn9 : n ≤ 140737488351232 := by have := bH.out; omega
    by_cases hbig : 2000 < n
    · have hb' : (2000 : Int) < (n : Int) := by omega
      go_wp2
      go_ret
      exact ⟨rfl, R3.out⟩
    · have hb' : decide ((2000 : Int) < (n : Int)) = false := decide_eq_false (by omega)
      obtain ⟨t, ht⟩ := hid_ex3 (ltx p)
      rw [ht.out]
      obtain ⟨L, hLn⟩ := hid_ex3 t.length
      have hLb : L ≤ 200000 := by
        have h1 := hdK_len inH.out 4
        have h2 := lins_len p.steps hfs.out
        have h3 := hLn.out
        rw [← ht.out] at h3
        unfold ltx at h3
        rw [List.length_append, List.length_append] at h3
        rw [hn.out] at h2
        simp only [List.length_cons, List.length_nil] at h3
        omega
      have hsz : (txb t).size = L := hLn.out
      obtain ⟨U, hU⟩ : ∃ U : Nat, at_ % 18446744073709551616 = (U : Int) := ⟨(at_ % 18446744073709551616).toNat, by omega⟩
      obtain ⟨K, hK⟩ := hid_ex3 (U % (L + 1))
      have hKL : K ≤ L := by have h1 := Nat.mod_lt U (show 0 < L + 1 by omega); rw [hK.out] at h1; omega
      have hK1 : (U : Int) % ((L : Int) + 1) = (K : Int) := by rw [← hK.out]; simp
      have hKw : IntKind.i64.wrap (K : Int) = (K : Int) := by rw [IntKind.wrap_i64]; omega
      have hLw : IntKind.i64.wrap ((L : Int) + 1) = (L : Int) + 1 := by rw [IntKind.wrap_i64]; omega
      have hLu : IntKind.u64.wrap ((L : Int) + 1) = (L : Int) + 1 := by rw [IntKind.wrap_u64]; omega
      have hUw : IntKind.u64.wrap at_ = (U : Int) := by rw [← hU]; rfl
      have hL0 : (((L : Int) + 1) == 0) = false := beq_eq_false_iff_ne.2 (by omega)
      have hmain := cut_main inH.out hfs.out K (t.take K) (by rw [ht.out])
      have hmH : Hid (((t.take K).getLast? = some 10 ∧ ∃ m, m ≤ p.steps.length ∧ (t.take K).count 10 = m + 1 ∧ rdt (t.take K) = .ok (pgw (Sp.hd p) (p.steps.take m))) ∨ ((t.take K).getLast? ≠ some 10 ∧ rdt (t.take K) = .error ((t.take K).count 10 + 1, false))) := hmain
      clear hmain hall ht
      have htix : Hid (∀ (i : Nat), i < L → ∀ W : World, (Instr.index 9 (.string (txb t)) (.int .i64 (i : Int))).run Tryd.prog W = .ok (.int .u8 ((t.getD i 0).toNat : Int)) W) := fun i hi W => tx_index t i (by rw [hLn.out]; exact hi) W
      have hcn : Hid (∀ i, i < L → (t.take (i + 1)).count 10 = (t.take i).count 10 + (if t.getD i 0 = 10 then 1 else 0)) := fun i hi => take_cnt t i (by rw [hLn.out]; exact hi)
      have hcl : Hid (∀ i, (t.take i).count 10 ≤ L) := fun i => by rw [← hLn.out]; exact Nat.le_trans List.count_le_length (by simp; omega)
      obtain ⟨T, hT⟩ := hid_ex3 (txb t)
      rw [hT.out] at hsz htix ⊢
      go_wp2_with fail
      go_loopw [10, 9] (fun i u wr => ∃ k : Nat, k ≤ K ∧ i = .int .i64 k ∧ u = .int .i64 ((t.take k).count 10 : Nat) ∧ Hid (wr = w3)) (fun i _ _ => K - (intOf i).toNat)
      case atStart => exact ⟨0, by omega, rfl, by simp, (rfl : _ = _)⟩
      case round =>
        obtain ⟨k, hk, rfl, rfl, hwr⟩ := hrel
        have hwr' := hwr.out
        subst hwr'
        by_cases hlt : k < K
        · have hlt' : (k : Int) < (K : Int) := by omega
          have hi := htix.out k (by omega)
          have hc := hcn.out k (by omega)
          have hl := hcl.out k
          have hq := u10 (t.getD k 0)
          generalize (t.take k).count 10 = C at *
          by_cases hx : t.getD k 0 = 10
          · rw [decide_eq_true hx] at hq
            rw [if_pos hx] at hc
            have hcH : Hid ((t.take (k + 1)).count 10 = C + 1) := hc
            clear hc hx
            generalize (t.getD k 0).toNat = bb at hi hq
            go_wp2
            go_roundw
            case rel => exact ⟨k + 1, by omega, by go_num, by rw [hcH.out]; go_num, trivial⟩
            case measure => simp [intOf]; omega
          · rw [decide_eq_false hx] at hq
            rw [if_neg hx] at hc
            have hcH : Hid ((t.take (k + 1)).count 10 = C) := hc
            clear hc hx
            generalize (t.getD k 0).toNat = bb at hi hq
            go_wp2
            go_roundw
            case rel => exact ⟨k + 1, by omega, by go_num, by rw [hcH.out], trivial⟩
            case measure => simp [intOf]; omega
        · obtain rfl : k = K := by omega
          have hTk : ∀ W : World, (Instr.slice 9 (.string T) none (some (.int .i64 (k : Int))) none).run Tryd.prog W = .ok (.string (txb (t.take k))) W := fun W => by
            rw [run_slice_string_h W 9 T Tryd.underlying9 .i64 (k : Int) (by omega) (by rw [hsz]; omega), show ((k : Int)).toNat = k by omega, ← hT.out, txb_cut]
            simp
          have hrd : Hid (∀ W, Below w.heap.size w W → Calls Tryd.prog 14 #[.string (txb (t.take k))] W fun e w' => RdE al (t.take k) W e w') := fun W hW => lread_c (t.take k) (by rw [List.length_take, hLn.out]; omega) W al (LH.out.below hW)
          obtain ⟨Tk, hTk2⟩ := hid_ex3 (txb (t.take k))
          rw [hTk2.out] at hTk hrd
          have hk0 : (0 : Int) ≤ (k : Int) := by omega
          have hkL : (k : Int) ≤ (L : Int) := by omega
          have hcl' := hcl.out k
          have hlast : Hid ((t.take k).getLast? = if k = 0 then none else some (t.getD (k - 1) 0)) := by
            by_cases h : k = 0
            · rw [if_pos h, h]; exact (rfl : _ = _)
            · rw [if_neg h]; exact take_last t k (by omega) (by rw [hLn.out]; exact hKL)
          clear hlt hwr x4 hbig hb' hcl hcn
          rcases hmH.out with ⟨hla, m, hm, hcm, hrt⟩ | ⟨hla, hrt⟩
          · rw [hlast.out] at hla
            have hkp : 0 < k := by
              rcases Nat.eq_zero_or_pos k with h | h
              · rw [if_pos h] at hla; cases hla
              · exact h
            rw [if_neg (by omega)] at hla
            have hbt : t.getD (k - 1) 0 = 10 := Option.some.inj hla
            have hi : ∀ W : World, (Instr.index 9 (.string T) (.int .i64 ((k : Int) - 1))).run Tryd.prog W = .ok (.int .u8 10) W := fun W => by
              have h1 := htix.out (k - 1) (by omega) W
              rw [hbt, show ((k - 1 : Nat) : Int) = (k : Int) - 1 by omega] at h1
              exact h1
            have hkp' : (0 : Int) < (k : Int) := by omega
            have hkw : IntKind.i64.wrap ((k : Int) - 1) = (k : Int) - 1 := by rw [IntKind.wrap_i64]; omega
            have hmw : IntKind.i64.wrap ((m : Int) + 1 - 1) = (m : Int) := by rw [IntKind.wrap_i64]; omega
            have hmn : m ≤ n := by rw [← hn.out]; exact hm
            have hsc := step_cut ao n c m (by omega)
            have hrA : Hid (∀ W, Below w.heap.size w W → Calls Tryd.prog 14 #[.string Tk] W fun e w' => ∃ (a' : Option Addr) (c' : Nat), e = .returned (.tuple #[.agg #[.int .i64 p.len, .int .i64 p.cells, .int .i64 p.inn, .int .i64 p.out, .slice a' m c'], .int .i64 0, .nilIface]) ∧ Ss w' a' (p.steps.take m) ∧ Below W.heap.size W w') := fun W hW => by
              refine (hrd.out W hW).mono ?_
              rintro e w' ⟨hb9, ⟨k9, b9, h9, _⟩ | ⟨p9, v9, h9, h8, h7⟩⟩
              · rw [hrt] at h9; cases h9
              · rw [hrt] at h9
                cases h9
                obtain ⟨a', c', e1, e2⟩ := h7.ss
                have e3 : (pgw (Sp.hd p) (p.steps.take m)).steps = p.steps.take m := rfl
                rw [e3] at e1 e2
                rw [List.length_take, hn.out, Nat.min_eq_left hmn] at e1
                refine ⟨a', c', ?_, e2, hb9⟩
                rw [h8, e1]; rfl
            rw [hcm]
            clear hmH hlast hla hbt hrt hrd htix hcm hm
            have x4 := X3.out.c4
            go_wp2_with fail
            refine (hrA.out wr R3.out).mono ?_
            rintro e w4 ⟨a', c', rfl, S4, B4⟩
            obtain ⟨b1, hb1⟩ := hid_ex3 w4.heap.size
            obtain ⟨w5, ew5⟩ := hid_ex3 (w4.alloc (.cells #[.int .i64 p.len, .int .i64 p.cells, .int .i64 p.inn, .int .i64 p.out, .slice a' m c'] 24))
            obtain ⟨b2, hb2⟩ := hid_ex3 w5.heap.size
            obtain ⟨w6, ew6⟩ := hid_ex3 (w5.alloc (.cells #[.int .i64 p.len, .int .i64 p.cells, .int .i64 p.inn, .int .i64 p.out, .slice ao n c] 24))
            obtain ⟨w7, ew7⟩ := hid_ex3 (w6.setCell ⟨b2, 4, none⟩ (.slice ao m c))
            have R4 : Hid (Below w.heap.size w w4) := R3.out.trans (B4.mono R3.out.size)
            have B5 : Hid (Below w4.heap.size w4 w5) := by rw [← ew5.out]; exact (Below.refl _ _).alloc (Nat.le_refl _) _
            have B6 : Hid (Below w5.heap.size w5 w6) := by rw [← ew6.out]; exact (Below.refl _ _).alloc (Nat.le_refl _) _
            have R5 : Hid (Below w.heap.size w w5) := R4.out.trans (B5.out.mono R4.out.size)
            have R6 : Hid (Below w.heap.size w w6) := R5.out.trans (B6.out.mono R5.out.size)
            have f7 := set_fr w6 b2 4 (.slice ao m c)
            rw [ew7.out] at f7
            have f7H : Hid (Fr (fun k => k = b2) w6 w7) := f7
            have hb2' : Hid (b2 = w5.heap.size) := hb2.out.symm
            have R7 : Hid (Below w5.heap.size w5 w7) := f7.below B6.out B6.out.size fun k _ hk => by have := hb2'.out; omega
            have R7w : Hid (Below w.heap.size w w7) := R5.out.trans (R7.out.mono R5.out.size)
            have Y5 : Hid (Bpg w5 b1 ⟨p.len, p.cells, p.inn, p.out, p.steps.take m⟩ (.slice a' m c')) := by rw [← ew5.out, ← hb1.out]; exact Bpg.new w4 ⟨p.len, p.cells, p.inn, p.out, p.steps.take m⟩ _
            have Y7 : Hid (Bpg w7 b1 ⟨p.len, p.cells, p.inn, p.out, p.steps.take m⟩ (.slice a' m c')) := Y5.out.below R7.out
            have X5 : Hid (Bpg w5 bp p (.slice ao n c)) := (X3.out.below B4).below B5.out
            have X6 : Hid (Bpg w6 bp p (.slice ao n c)) := X5.out.below B6.out
            have Z6 : Hid (Bpf w6 b2 ⟨p.len, p.cells, p.inn, p.out, p.steps.take m⟩ (.slice ao n c)) := by rw [← ew6.out, ← hb2.out]; exact Bpf.new w5 ⟨p.len, p.cells, p.inn, p.out, p.steps.take m⟩ _
            have Z7 : Hid (Bpf w7 b2 ⟨p.len, p.cells, p.inn, p.out, p.steps.take m⟩ (.slice ao m c)) := by rw [← ew7.out]; exact Z6.out.set4 _
            have hsm : Hid (Calls Tryd.prog 11 #[.agg #[.int .i64 p.len, .int .i64 p.cells, .int .i64 p.inn, .int .i64 p.out, .slice a' m c'], .agg #[.int .i64 p.len, .int .i64 p.cells, .int .i64 p.inn, .int .i64 p.out, .slice ao m c]] w7 fun e w' => e = .returned (.bool true) ∧ Below w7.heap.size w7 w') := by
              have hlm : m = (p.steps.take m).length := by rw [List.length_take, hn.out, Nat.min_eq_left hmn]
              have h1 := dsame_c ⟨p.len, p.cells, p.inn, p.out, p.steps.take m⟩ ⟨p.len, p.cells, p.inn, p.out, p.steps.take m⟩ a' ao m m c' c w7 ((S4.below B5.out).below R7.out) (ss_take (aH.out.below R7w.out) m) hlm hlm (by omega)
              rw [pgeq_iff.2 rfl] at h1
              exact h1
            clear S4 B4 f7 hrA x4
            have hnil := nil16
            have hgn := guard_nil16
            have x4 := X6.out.c4
            have z4 := Z6.out.bx.c4
            have zf := Z6.out.fz 4
            obtain ⟨x0, x1, x2, x3, x5⟩ := X5.out
            go_upto_region 15 with fail
            rw [ew5.out, hb1.out]
            go_upto_region 17 with fail
            rw [ew6.out, hb2.out]
            go_upto_region 18 with fail
            rw [ew7.out]
            clear x0 x1 x2 x3 x4 x5 z4 zf
            obtain ⟨y0, y1, y2, y3, y4⟩ := Y7.out
            obtain ⟨z0, z1, z2, z3, z4⟩ := Z7.out.bx
            go_wp2_with fail
            refine hsm.out.mono ?_
            rintro e w8 ⟨rfl, B8⟩
            have R8 : Hid (Below w.heap.size w w8) := R7w.out.trans (B8.mono R7w.out.size)
            clear y0 y1 y2 y3 y4 z0 z1 z2 z3 z4 B8 hsm
            go_wp2
            go_ret
            exact ⟨rfl, R8.out⟩
          · rw [hlast.out] at hla
            have hrB : Hid (∀ W, Below w.heap.size w W → Calls Tryd.prog 14 #[.string Tk] W fun e w' => e = .returned (.tuple #[.agg #[.int .i64 0, .int .i64 0, .int .i64 0, .int .i64 0, .slice none 0 0], .int .i64 (((t.take k).count 10 : Nat) + 1 : Int), ek al 5]) ∧ Below W.heap.size W w') := fun W hW => by
              refine (hrd.out W hW).mono ?_
              rintro e w' ⟨hb9, ⟨k9, b9, h9, h8⟩ | ⟨p9, v9, h9, _, _⟩⟩
              · rw [hrt] at h9
                cases h9
                exact ⟨h8, hb9⟩
              · rw [hrt] at h9; cases h9
            clear hmH hlast hrt hrd
            generalize (t.take k).count 10 = C at *
            have hCw : IntKind.i64.wrap ((C : Int) + 1) = (C : Int) + 1 := by rw [IntKind.wrap_i64]; omega
            have x4 := X3.out.c4
            have hkw : IntKind.i64.wrap ((k : Int) - 1) = (k : Int) - 1 := by rw [IntKind.wrap_i64]; omega
            go_wp2_with fail
            refine (hrB.out wr R3.out).mono ?_
            rintro e w4 ⟨rfl, B4⟩
            obtain ⟨b1, hb1⟩ := hid_ex3 w4.heap.size
            obtain ⟨w5, ew5⟩ := hid_ex3 (w4.alloc (.cells #[.int .i64 0, .int .i64 0, .int .i64 0, .int .i64 0, .slice none 0 0] 24))
            have R4 : Hid (Below w.heap.size w w4) := R3.out.trans (B4.mono R3.out.size)
            have B5 : Hid (Below w4.heap.size w4 w5) := by rw [← ew5.out]; exact (Below.refl _ _).alloc (Nat.le_refl _) _
            have R5 : Hid (Below w.heap.size w w5) := R4.out.trans (B5.out.mono R4.out.size)
            have Y5 : Hid (Bpg w5 b1 ⟨0, 0, 0, 0, []⟩ (.slice none 0 0)) := by rw [← ew5.out, ← hb1.out]; exact Bpg.new w4 ⟨0, 0, 0, 0, []⟩ _
            have hsm : Hid (Calls Tryd.prog 11 #[.agg #[.int .i64 0, .int .i64 0, .int .i64 0, .int .i64 0, .slice none 0 0], .agg #[.int .i64 0, .int .i64 0, .int .i64 0, .int .i64 0, .slice none 0 0]] w5 fun e w' => e = .returned (.bool true) ∧ Below w5.heap.size w5 w') := by
              have h0 : Ss w5 none [] := fun i s hi => by simp at hi
              have h1 := dsame_c ⟨0, 0, 0, 0, []⟩ ⟨0, 0, 0, 0, []⟩ none none 0 0 0 0 w5 h0 h0 rfl rfl (by omega)
              rw [pgeq_iff.2 rfl] at h1
              exact h1
            have hte := (LH.out.below R5.out).te
            have heq := eq_same al 5
            have hgd := guard_c al 5
            obtain ⟨E, hE⟩ := hid_ex3 (ek al 5)
            rw [hE.out] at hte heq hgd ⊢
            clear B4 hrB x4
            go_upto_region 15 with fail
            rw [ew5.out, hb1.out]
            by_cases hkz : k = 0
            · have hkz' : ¬ (0 : Int) < (k : Int) := by omega
              have hkd : decide ((0 : Int) < (k : Int)) = false := decide_eq_false hkz'
              clear hkz hla
              obtain ⟨y0, y1, y2, y3, y4⟩ := Y5.out
              go_wp2_with fail
              refine hsm.out.mono ?_
              rintro e w8 ⟨rfl, B8⟩
              have R8 : Hid (Below w.heap.size w w8) := R5.out.trans (B8.mono R5.out.size)
              clear y0 y1 y2 y3 y4 B8 hsm
              go_wp2
              go_ret
              exact ⟨rfl, R8.out⟩
            · have hkz' : (0 : Int) < (k : Int) := by omega
              rw [if_neg hkz] at hla
              have hi : ∀ W : World, (Instr.index 9 (.string T) (.int .i64 ((k : Int) - 1))).run Tryd.prog W = .ok (.int .u8 ((t.getD (k - 1) 0).toNat : Int)) W := fun W => by
                have h1 := htix.out (k - 1) (by omega) W
                rw [show ((k - 1 : Nat) : Int) = (k : Int) - 1 by omega] at h1
                exact h1
              have hq := u10 (t.getD (k - 1) 0)
              rw [decide_eq_false (fun e => hla (by rw [e]))] at hq
              clear hla hkz
              generalize (t.getD (k - 1) 0).toNat = bb at hi hq
              obtain ⟨y0, y1, y2, y3, y4⟩ := Y5.out
              go_wp2_with fail
              refine hsm.out.mono ?_
              rintro e w8 ⟨rfl, B8⟩
              have R8 : Hid (Below w.heap.size w w8) := R5.out.trans (B8.mono R5.out.size)
              clear y0 y1 y2 y3 y4 B8 hsm
              go_wp2
              go_ret
              exact ⟨rfl, R8.out⟩
end Go.Proofs.YtebknahackkhnaaDoor
