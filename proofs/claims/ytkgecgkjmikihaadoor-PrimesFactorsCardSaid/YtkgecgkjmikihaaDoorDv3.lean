/-
  The contract of the document's Divisors of layer 5.
-/
import Derived.Test.YtkgecgkjmikihaaDoorDvs
import Derived.Test.YtkgecgkjmikihaaDoorFc5
import Derived.Test.YtkgecgkjmikihaaDoorIln
import Derived.Deep.CutBlock
namespace Go.Proofs.YtkgecgkjmikihaaDoor
open Flo Go.RowKit

/-- across from these -/
def hl (n : Nat) (L : List Nat) : List Nat := (L.filter fun x => decide (x * x ≠ n)).map fun x => n / x
theorem hl_app (n : Nat) (L M : List Nat) : hl n (L ++ M) = hl n L ++ hl n M := by simp [hl]
theorem gen_front (f : Nat → Option Nat) (k : Nat) : Nt.gen f (k + 1) = (f 0).toList ++ Nt.gen (fun t => f (t + 1)) k := by
  unfold Nt.gen
  rw [List.range_succ_eq_map, List.filterMap_cons, List.filterMap_map]
  cases h : f 0 <;> simp [Function.comp_def]
theorem hl_lo (n : Nat) : ∀ d, hl n (Nt.gen (Nt.loF n) d).reverse = Nt.gen (Nt.hiF n d) d := by
  intro d
  induction d with
  | zero => simp [Nt.gen, hl]
  | succ d ih =>
    rw [gen_front (Nt.hiF n (d + 1)), Nt.gen_succ (Nt.loF n), List.reverse_append, hl_app, ih]
    have e : (fun t => Nt.hiF n (d + 1) (t + 1)) = Nt.hiF n d := by
      funext t; unfold Nt.hiF; rw [Nat.add_sub_add_right]
    rw [e]
    congr 1
    unfold Nt.loF Nt.hiF
    rw [Nat.sub_zero]
    by_cases c1 : n % (d + 1) = 0
    · rw [if_pos c1]
      by_cases c2 : (d + 1) * (d + 1) = n
      · rw [if_neg (fun h => h.2 c2)]; simp [hl, c2]
      · rw [if_pos ⟨c1, c2⟩]; simp [hl, c2]
    · rw [if_neg c1, if_neg (fun h => c1 h.1)]; simp [hl]
theorem hl_step {n : Nat} {low : List Nat} {i : Nat} (h : i < low.length) : hl n (low.drop i).reverse = hl n (low.drop (i + 1)).reverse ++ (if low.getD i 0 * low.getD i 0 ≠ n then [n / low.getD i 0] else []) := by
  have e : low.getD i 0 = low[i] := by simp [List.getD, h]
  rw [List.drop_eq_getElem_cons h, List.reverse_cons, hl_app, e]
  congr 1
  by_cases c : low[i] * low[i] = n
  · rw [if_neg (by simpa using c)]; simp [hl, c]
  · rw [if_pos c]; simp [hl, c]
theorem lo_pos {n s : Nat} {x : Nat} (h : x ∈ Nt.gen (Nt.loF n) s) : 1 ≤ x ∧ x ≤ s ∧ x ∣ n := by
  obtain ⟨t, ht, e⟩ := Nt.mem_gen.1 h
  have := Nt.loF_some e
  exact ⟨by omega, by omega, this.2⟩
theorem lo_len (n s : Nat) : (Nt.gen (Nt.loF n) s).length ≤ s := by
  unfold Nt.gen
  exact Nat.le_trans (List.length_filterMap_le _ _) (by simp)
theorem lo_one {n s : Nat} (hs : 1 ≤ s) : 0 < (Nt.gen (Nt.loF n) s).length := by
  apply List.length_pos_of_mem (a := 1)
  rw [Nt.mem_gen]
  exact ⟨0, by omega, by unfold Nt.loF; rw [if_pos (Nat.mod_one n)]⟩
theorem hl_len (n : Nat) (L : List Nat) : (hl n L).length ≤ L.length := by
  unfold hl; rw [List.length_map]; exact List.length_filter_le _ _
set_option maxHeartbeats 2000000 in
theorem r5Divisors_no (n : Int) (w : World) (h : n < 1 ∨ 4294967296 < n) :
    Calls Tryd.prog 21 #[.int .i64 n] w fun e w' => e = .returned (.slice none 0 0) ∧ w = w' := by
  by_cases h1 : n < 1
  · go_enter Tryd.func21, Tryd.ntmps21
    go_wp2
    go_ret
    exact ⟨rfl, rfl⟩
  · have c1 : decide (n < 1) = false := decide_eq_false h1
    have c2 : 4294967296 < n := by omega
    clear h
    go_enter Tryd.func21, Tryd.ntmps21
    go_wp2
    go_ret
    exact ⟨rfl, rfl⟩
set_option maxHeartbeats 4000000 in
theorem r5Divisors_n (N s : Nat) (w : World) (hN1 : 1 ≤ N) (hN : N ≤ 4294967296) (hs1 : Hid (s * s ≤ N)) (hs2 : Hid (N < (s + 1) * (s + 1))) :
    Calls Tryd.prog 21 #[.int .i64 N] w fun e w' => ∃ v, e = .returned v ∧ w'.ownsRow w.heap.size 3 1 v (Nt.DV N s).length (il (Nt.DV N s)) ∧ Below w.heap.size w w' := by
  obtain ⟨i0, hi, hz0, hz1, hz2⟩ := info_parts infoInt
  have hs : s ≤ 65536 := by
    apply Nat.le_of_not_lt
    intro c
    have := Nat.mul_le_mul c c
    have := hs1.out
    omega
  have hs0 : 1 ≤ s := by
    apply Nat.le_of_not_lt
    intro c
    have := hs2.out
    rw [show s = 0 by omega] at this
    omega
  have d1 : decide ((N : Int) < 1) = false := decide_eq_false (by omega)
  have d2 : decide ((4294967296 : Int) < (N : Int)) = false := decide_eq_false (by omega)
  go_enter Tryd.func21, Tryd.ntmps21
  go_wp2
  clear d1 d2
  go_loopw [3, 5] (fun v sd wr => ∃ c : Nat, 1 ≤ c ∧ c ≤ s + 1 ∧ sd = .int .i64 (c : Int) ∧ wr.ownsRow w.heap.size 3 1 v (Nt.gen (Nt.loF N) (c - 1)).length (il (Nt.gen (Nt.loF N) (c - 1))) ∧ Below w.heap.size w wr) (fun _ sd _ => (s + 2) - (intOf sd).toNat)
  case atStart => exact ⟨1, by omega, by omega, rfl, World.ownsRow_nil _ _ _ _, Below.refl _ _⟩
  case round =>
    obtain ⟨c, hc1, hcs, rfl, hown, hbl⟩ := hrel
    have hsz := hbl.size
    obtain ⟨t, ht⟩ : ∃ t : Nat, t = c * c := ⟨_, rfl⟩
    have htl : t ≤ 4295098369 := by rw [ht]; exact Nat.mul_le_mul (show c ≤ 65537 by omega) (show c ≤ 65537 by omega)
    have ed : wrap64 ((c : Int) * (c : Int)) = (t : Int) := by
      rw [castMul, ← ht]; unfold wrap64; omega
    have dz : ((c : Int) == 0) = false := beq_eq_false_iff_ne.2 (by omega)
    by_cases hcc : t ≤ N
    · have hc' : (t : Int) ≤ (N : Int) := by omega
      have hle : c ≤ s := by
        apply Nat.le_of_not_lt
        intro k
        have := Nat.mul_le_mul (show s + 1 ≤ c by omega) (show s + 1 ≤ c by omega)
        have := hs2.out
        omega
      have hll := lo_len N (c - 1)
      by_cases hm : N % c = 0
      · have m1 : ((N : Int) % (c : Int) == 0) = true := by rw [beq_iff_eq]; omega
        have hf : Nt.loF N (c - 1) = some c := by
          unfold Nt.loF; rw [show c - 1 + 1 = c by omega, if_pos hm]
        have hg : Hid (Nt.gen (Nt.loF N) (c + 1 - 1) = Nt.gen (Nt.loF N) (c - 1) ++ [c]) := (by
          have := Nt.gen_some hf
          rwa [show c - 1 + 1 = c + 1 - 1 by omega] at this : Nt.gen (Nt.loF N) (c + 1 - 1) = Nt.gen (Nt.loF N) (c - 1) ++ [c])
        clear ht htl hcc hm hf
        generalize Nt.gen (Nt.loF N) (c - 1) = low at *
        have hsn : Hid (il (low ++ [c]) = il low ++ [.int .i64 (c : Int)]) := il_snoc low c
        go_wp2_with (at_builtin; refine wpList_append_own _ rfl _ _ 23 rfl w.heap.size 3 i0 (.int .i64 0) 1 8 Tryd.underlying23 hi hz0 hz1 hz2 rfl (by decide) _ _ _ rfl (hown.alloc _) ⟨wr.heap.size, 0, none⟩ 1 1 [.int .i64 (c : Int)] rfl rfl ?c1 ?c2 ?c3 ?c4 ?c5 ?_)
        case c1 =>
          intro j u hj
          match j, hj with
          | 0, hj => simp at hj; subst hj; simp [Addr.add]
        case c2 => intro u hu; simp at hu; subst hu; rfl
        case c3 => unfold maxLen; omega
        case c4 => omega
        case c5 => simp; omega
        · intro v' w1 hown' hgrow hnil
          have hbl' : Below w.heap.size w w1 := (hbl.alloc hsz _).grown hgrow (by simp; omega) (fun k' hk' => (hown.lt k' hk').1)
          rw [← hsn.out] at hown'
          have hl : (low ++ [c]).length = low.length + 1 := by simp
          clear hown hgrow hnil hbl
          go_wp2
          go_roundw
          case rel => exact ⟨c + 1, by omega, by omega, by go_num, by rw [hg.out, hl]; exact hown', hbl'⟩
          case measure => simp [intOf]; omega
      · have m1 : ((N : Int) % (c : Int) == 0) = false := beq_eq_false_iff_ne.2 (by omega)
        have hf : Nt.loF N (c - 1) = none := by
          unfold Nt.loF; rw [show c - 1 + 1 = c by omega, if_neg hm]
        have hg : Hid (Nt.gen (Nt.loF N) (c + 1 - 1) = Nt.gen (Nt.loF N) (c - 1)) := (by
          have := Nt.gen_none hf
          rwa [show c - 1 + 1 = c + 1 - 1 by omega] at this : Nt.gen (Nt.loF N) (c + 1 - 1) = Nt.gen (Nt.loF N) (c - 1))
        clear ht htl hcc hm hf
        go_wp2
        go_roundw
        case rel => exact ⟨c + 1, by omega, by omega, by go_num, by rw [hg.out]; exact hown, hbl⟩
        case measure => simp [intOf]; omega
    · have hc' : decide ((t : Int) ≤ (N : Int)) = false := decide_eq_false (by omega)
      have hcs' : c = s + 1 := by
        apply Nat.le_antisymm hcs
        apply Nat.le_of_not_lt
        intro k
        have := Nat.mul_le_mul (show c ≤ s by omega) (show c ≤ s by omega)
        have := hs1.out
        omega
      rw [show c - 1 = s by omega] at hown
      have hlow : Hid (∀ x ∈ Nt.gen (Nt.loF N) s, 1 ≤ x ∧ x ≤ s ∧ x ∣ N) := fun x hx => lo_pos hx
      have hl1 := lo_one (n := N) hs0
      have hll := lo_len N s
      have hfin : Hid (Nt.gen (Nt.loF N) s ++ hl N (Nt.gen (Nt.loF N) s).reverse = Nt.DV N s) := (by rw [hl_lo]; rfl : Nt.gen (Nt.loF N) s ++ hl N (Nt.gen (Nt.loF N) s).reverse = Nt.DV N s)
      generalize Nt.gen (Nt.loF N) s = low at *
      obtain ⟨g, cap, cur, rfl, hg0, hg1, hg2, hg3, hg4, hg5⟩ := hown.2.resolve_left (fun h => by have := h.2; omega)
      have hn0 : ¬ t ≤ N := hcc
      have hrd : Hid (RdI wr (.slice (some ⟨g, 0, none⟩) low.length cap) low) := RdI.of_own hown
      clear ht htl hcc hcs' hg1 hg4 hg5
      obtain ⟨wo, rfl⟩ : ∃ wo, wo = wr := ⟨_, rfl⟩
      have hbl0 : Hid (Below w.heap.size w wo) := hbl
      have hgw : g < wo.heap.size := (hown.lt g rfl).2
      clear hown hbl
      go_wp2_with (at_builtin; refine wpList_append_own _ rfl _ _ 23 rfl wo.heap.size 3 i0 (.int .i64 0) 1 8 Tryd.underlying23 hi hz0 hz1 hz2 rfl (by decide) _ _ _ rfl (World.ownsRow_nil _ _ _ _) ⟨g, 0, none⟩ low.length cap (il low) rfl ?c0 ?c1 ?c2 ?c3 ?c4 ?c5 ?_)
      case c0 => rw [il_len, Nat.mul_one]
      case c1 =>
        intro j u hj
        obtain ⟨ao, cap', he, hr⟩ := hrd.out
        obtain ⟨b, off, rfl, _, hcl⟩ := hr (by intro e; rw [e] at hl1; simp at hl1)
        simp only [Value.slice.injEq, Option.some.injEq, Addr.mk.injEq] at he
        obtain ⟨⟨rfl, rfl, _⟩, _, _⟩ := he
        have hjl : j < low.length := by
          have := (List.getElem?_eq_some_iff.1 hj).1; rwa [il_len] at this
        have h2 := hcl j hjl
        rw [il_get low j hjl] at hj
        rw [← hj, ← h2]
        congr 1
        unfold Addr.add
        by_cases hj0 : j = 0
        · subst hj0; simp
        · simp [hj0]
      case c2 =>
        intro u hu
        unfold il at hu
        obtain ⟨z, _, rfl⟩ := List.mem_map.1 hu
        rfl
      case c3 => unfold maxLen; omega
      case c4 => omega
      case c5 => exact Nat.le_refl _
      · intro v' w1 hown' hgrow hnil
        have hb1 : Below wo.heap.size wo w1 := (Below.refl _ wo).grown hgrow (Nat.le_refl _) (fun k' hk' => by cases hk')
        have hO : w1.ownsRow wo.heap.size 3 1 v' (low ++ hl N (low.drop low.length).reverse).length (il (low ++ hl N (low.drop low.length).reverse)) := by
          have e : low ++ hl N (low.drop low.length).reverse = low := by simp [hl]
          rw [e]
          simpa using hown'
        clear hown' hgrow hnil
        go_wp2
        clear hc' ed dz hn0
        go_loopw [4, 6] (fun v si wx => ∃ j : Nat, j ≤ low.length ∧ si = .int .i64 ((j : Int) - 1) ∧ wx.ownsRow wo.heap.size 3 1 v (low ++ hl N (low.drop j).reverse).length (il (low ++ hl N (low.drop j).reverse)) ∧ Below wo.heap.size wo wx) (fun _ si _ => (intOf si + 1).toNat)
        case atStart => exact ⟨low.length, Nat.le_refl _, rfl, hO, hb1⟩
        case round =>
          clear hO hb1
          obtain ⟨j, hj, rfl, hown, hbl⟩ := hrel
          have hsz := hbl.size
          by_cases hj0 : j = 0
          · subst hj0
            rw [List.drop_zero, hfin.out] at hown
            have hb2 : Hid (Below w.heap.size w wr) := hbl0.out.trans (hbl.mono hbl0.out.size)
            have hbs := hbl0.out.size
            clear hrd hbl
            go_wp2
            go_ret
            exact ⟨_, rfl, ⟨hown.1, hown.2.imp id (fun ⟨g, cap, cur, a, b, c⟩ => ⟨g, cap, cur, a, by omega, c⟩)⟩, hb2.out⟩
          · obtain ⟨i, rfl⟩ : ∃ i, j = i + 1 := ⟨j - 1, by omega⟩
            have ej : ((i + 1 : Nat) : Int) - 1 = (i : Int) := by omega
            rw [ej]
            have hil : i < low.length := by omega
            have hst := hl_step (n := N) hil
            have hmem : low.getD i 0 ∈ low := by simp [List.getD, hil]
            obtain ⟨x1, x2, x3⟩ := hlow.out _ hmem
            obtain ⟨ao, cap', he, hr⟩ := (hrd.out.below hbl)
            obtain ⟨b, off, rfl, _, hcl⟩ := hr (by intro e; rw [e] at hl1; simp at hl1)
            simp only [Value.slice.injEq, Option.some.injEq, Addr.mk.injEq] at he
            obtain ⟨⟨rfl, rfl, _⟩, _, rfl⟩ := he
            have c1 : wr.cell? ⟨g, i, none⟩ = some (.int .i64 ((low.getD i 0 : Nat) : Int)) := by have := hcl i hil; rwa [Nat.zero_add] at this
            have hlen2 : (low ++ hl N (low.drop (i + 1)).reverse).length ≤ 131072 := by
              have h1 := hl_len N (low.drop (i + 1)).reverse
              simp at h1 ⊢
              omega
            have hk0 : (0 : Int) ≤ (i : Int) := by omega
            have hkl : (i : Int) < (low.length : Int) := by omega
            clear hcl hr hmem ej
            generalize low.getD i 0 = x at *
            obtain ⟨t2, ht⟩ : ∃ t : Nat, t = x * x := ⟨_, rfl⟩
            have htl : t2 ≤ 4294967296 := by rw [ht]; exact Nat.mul_le_mul (show x ≤ 65536 by omega) (show x ≤ 65536 by omega)
            have edH : Hid (wrap64 ((x : Int) * (x : Int)) = (t2 : Int)) := (by
              rw [castMul, ← ht]; unfold wrap64; omega : wrap64 ((x : Int) * (x : Int)) = (t2 : Int))
            rw [← ht] at hst
            clear ht
            by_cases hne : t2 = N
            · have m2 : ((t2 : Int) == (N : Int)) = true := by rw [beq_iff_eq]; omega
              have m3 : ((t2 : Int) != (N : Int)) = false := by simp [bne, m2]
              rw [if_neg (fun h => h hne), List.append_nil] at hst
              have hH : Hid (hl N (low.drop i).reverse = hl N (low.drop (i + 1)).reverse) := hst
              clear hst hne
              have ed := edH.out
              go_wp2
              go_quiet (fail)
              clear ed edH
              go_wp2
              go_roundw
              case rel => exact ⟨i, by omega, by go_num, by rw [hH.out]; exact hown, below_drewN hbl _⟩
              case measure => simp [intOf]
            · have m2 : ((t2 : Int) == (N : Int)) = false := beq_eq_false_iff_ne.2 (by omega)
              have m3 : ((t2 : Int) != (N : Int)) = true := by simp [bne, m2]
              rw [if_pos hne] at hst
              have hH : Hid (low ++ hl N (low.drop i).reverse = low ++ hl N (low.drop (i + 1)).reverse ++ [N / x]) := (by rw [hst, List.append_assoc] : low ++ hl N (low.drop i).reverse = low ++ hl N (low.drop (i + 1)).reverse ++ [N / x])
              clear hst hne
              obtain ⟨q, hq⟩ : ∃ q : Nat, q = N / x := ⟨_, rfl⟩
              have hqN : q ≤ N := by rw [hq]; exact Nat.div_le_self _ _
              have eqH : Hid (wrap64 ((N : Int) / (x : Int)) = (q : Int)) := (by
                rw [show (N : Int) / (x : Int) = ((N / x : Nat) : Int) from rfl, ← hq]; unfold wrap64; omega : wrap64 ((N : Int) / (x : Int)) = (q : Int))
              have xz : ((x : Int) == 0) = false := beq_eq_false_iff_ne.2 (by omega)
              rw [← hq] at hH
              clear hq
              generalize low ++ hl N (low.drop (i + 1)).reverse = L at *
              have hsn : Hid (il (L ++ [q]) = il L ++ [.int .i64 (q : Int)]) := il_snoc L q
              have ed := edH.out
              go_wp2
              go_quiet (fail)
              clear ed edH
              have eq1 := eqH.out
              have hown2 : (wr.drewN nq).ownsRow wo.heap.size 3 1 _ L.length (il L) := hown
              have hbl2 : Below wo.heap.size wo (wr.drewN nq) := below_drewN hbl _
              have c2 : (wr.drewN nq).cell? ⟨g, i, none⟩ = some (.int .i64 (x : Int)) := c1
              generalize wr.drewN nq = w2 at hown2 hbl2 c2 ⊢
              have hsz2 := hbl2.size
              clear hown hbl c1 hsz
              go_wp2_with (at_builtin; refine wpList_append_own _ rfl _ _ 23 rfl wo.heap.size 3 i0 (.int .i64 0) 1 8 Tryd.underlying23 hi hz0 hz1 hz2 rfl (by decide) _ _ _ rfl (hown2.alloc _) ⟨w2.heap.size, 0, none⟩ 1 1 [.int .i64 (q : Int)] rfl rfl ?c1 ?c2 ?c3 ?c4 ?c5 ?_)
              case c1 =>
                intro j u hj
                match j, hj with
                | 0, hj => simp at hj; subst hj; simp [Addr.add]
              case c2 => intro u hu; simp at hu; subst hu; rfl
              case c3 => clear eq1; unfold maxLen; omega
              case c4 => clear eq1; omega
              case c5 => clear eq1; simp; omega
              · intro v' w3 hown' hgrow hnil
                have hbl' : Below wo.heap.size wo w3 := (hbl2.alloc hsz2 _).grown hgrow (by simp; omega) (fun k' hk' => (hown2.lt k' hk').1)
                rw [← hsn.out] at hown'
                have hl : (L ++ [q]).length = L.length + 1 := by simp
                clear hown2 hgrow hnil hbl2 eq1
                go_wp2
                go_roundw
                case rel => exact ⟨i, by omega, by go_num, by rw [hH.out, hl]; exact hown', hbl'⟩
                case measure => simp [intOf]
theorem r5Div_c (N : Int) (s : Nat) (hs : s * s ≤ N.toNat ∧ N.toNat < (s + 1) * (s + 1)) (w : World) :
    Calls Tryd.prog 21 #[.int .i64 N] w fun e w' => ∃ v, e = .returned v ∧ w'.ownsRow w.heap.size 3 1 v (if 1 ≤ N ∧ N ≤ 4294967296 then Nt.DV N.toNat s else []).length (il (if 1 ≤ N ∧ N ≤ 4294967296 then Nt.DV N.toNat s else [])) ∧ Below w.heap.size w w' := by
  by_cases h : 1 ≤ N ∧ N ≤ 4294967296
  · rw [if_pos h]
    obtain ⟨M, rfl⟩ : ∃ M : Nat, N = (M : Int) := ⟨N.toNat, by omega⟩
    rw [Int.toNat_natCast] at hs ⊢
    exact r5Divisors_n M s w (by omega) (by omega) hs.1 hs.2
  · rw [if_neg h]
    refine (r5Divisors_no N w (by omega)).mono ?_
    rintro e w' ⟨rfl, rfl⟩
    exact ⟨_, rfl, World.ownsRow_nil _ _ _ _, Below.refl _ _⟩
end Go.Proofs.YtkgecgkjmikihaaDoor
