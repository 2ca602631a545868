/-
  The document's row (package check's reference), and the statements' sameInts.
-/
import Derived.Test.YtmnbpmmilfkjiaaDoorKap
import Derived.Test.YtmnbpmmilfkjiaaDoorKd1
import Derived.Test.YtmnbpmmilfkjiaaDoorSp3
import Derived.Laws.Tables
import Derived.Deep.RegionWith
import Derived.Deep.RegionLaw
namespace Go.Proofs.YtmnbpmmilfkjiaaDoor
open Flo Go.RowKit
def rwl (A J c : Nat) : List Nat := (List.range c).map fun i => A + i * J
theorem rwl_succ (A J i : Nat) : rwl A J (i + 1) = rwl A J i ++ [A + i * J] := by simp [rwl, List.range_succ]
theorem rwl_len (A J c : Nat) : (rwl A J c).length = c := by simp [rwl]
theorem rwl_num {A J c m : Nat} (hA : A ≤ 1099511627776) (hJ : J ≤ 1048576) (hc : c ≤ 1048576) (hm : m < c) : IntKind.i64.wrap ((m : Int) * (J : Int)) = ((m * J : Nat) : Int) ∧ IntKind.i64.wrap ((A : Int) + ((m * J : Nat) : Int)) = ((A + m * J : Nat) : Int) ∧ wrap64 ((A : Int) + (m : Int) * (J : Int)) = (A : Int) + (m : Int) * (J : Int) := by
  have h1 : m * J ≤ 1048576 * 1048576 := Nat.mul_le_mul (by omega) hJ
  have h2 : (m : Int) * (J : Int) = ((m * J : Nat) : Int) := by push_cast; rfl
  rw [h2]
  generalize m * J = z at h1
  refine ⟨?_, ?_, ?_⟩
  · rw [IntKind.wrap_i64]; omega
  · rw [IntKind.wrap_i64]; omega
  · unfold wrap64; omega
set_option maxHeartbeats 1000000 in
set_option maxRecDepth 100000 in
theorem drow_c (A J c : Nat) (hA : A ≤ 1099511627776) (hJ : J ≤ 1048576) (hc : c ≤ 1048576) (w : World) :
    Calls Tryd.prog 32 #[.int .i64 (A : Int), .int .i64 (J : Int), .int .i64 (c : Int)] w fun e w' => ∃ v', e = .returned v' ∧ w'.ownsRow w.heap.size 3 1 v' (rwl A J c).length (il (rwl A J c)) ∧ Below w.heap.size w w' := by
  obtain ⟨B, hB⟩ : ∃ n, Hid (w.heap.size = n) := ⟨_, (rfl : _ = _)⟩
  rw [hB.out]
  obtain ⟨wa, ewa⟩ : ∃ z, Hid (w.alloc (.cells #[] 3) = z) := ⟨_, (rfl : _ = _)⟩
  have Ba : Hid (Below B w wa) := by rw [← ewa.out]; exact (Below.refl _ _).alloc (Nat.le_of_eq hB.out.symm) _
  have oa : Hid (wa.ownsRow B 3 1 (.slice (some ⟨w.heap.size, 0, none⟩) 0 0) ([] : List Nat).length (il [])) := by rw [← ewa.out]; exact World.ownsRow_made w #[] 0 (Nat.le_of_eq hB.out.symm) (by decide) rfl
  go_enter Tryd.func32, Tryd.ntmps32
  go_wp2
  rw [ewa.out]
  go_loopw [7, 8] (fun a i wr => ∃ k : Nat, k ≤ c ∧ i = .int .i64 k ∧ Hid (Below B w wr) ∧ Hid (wr.ownsRow B 3 1 a (rwl A J k).length (il (rwl A J k)))) (fun _ i _ => c - (intOf i).toNat)
  case atStart => exact ⟨0, Nat.zero_le _, rfl, Ba.out, oa.out⟩
  case round =>
    obtain ⟨k, hk, rfl, Bk, hown⟩ := hrel
    by_cases hlt : k < c
    · have hlt' : (k : Int) < (c : Int) := by omega
      obtain ⟨e1, e2, e3⟩ := rwl_num hA hJ hc hlt
      have hsz1 : Hid (B ≤ wr.heap.size) := by have := Bk.out.size; have := hB.out; show _ ≤ _; omega
      have hll : Hid (((rwl A J k).length + 1) * 8 ≤ 140737488355328) := by show _ ≤ _; rw [rwl_len]; omega
      go_wp2_with (first | (at_builtin; refine appI _ rfl _ _ rfl B (rwl A J k) (A + k * J) wr.heap.size u7 rfl rfl (hown.out.alloc _) (by first | (simp [go_sem]; done) | (simp [go_sem]; exact e3)) hll.out (by simp; exact Nat.le_succ_of_le hsz1.out) ?_) | fail)
      intro v' w4 ho hg
      have hB4 : Hid (Below B w w4) := (Bk.out.alloc hsz1.out _).grown hg (by simp; exact Nat.le_succ_of_le hsz1.out) (fun k' hk' => (hown.out.lt k' hk').1)
      have ho4 : Hid (w4.ownsRow B 3 1 v' (rwl A J (k + 1)).length (il (rwl A J (k + 1)))) := by
        show World.ownsRow _ _ _ _ _ _ _; rw [rwl_succ, List.length_append]; exact ho
      clear ho hg e1 e2 e3
      go_wp2
      go_roundw
      case rel => exact ⟨k + 1, by omega, by go_num, hB4, ho4⟩
      case measure => simp [intOf]; omega
    · have hlt' : decide ((k : Int) < (c : Int)) = false := decide_eq_false (by omega)
      obtain rfl : k = c := by omega
      go_wp2
      go_ret
      exact ⟨_, rfl, hown.out, Bk.out⟩
end Go.Proofs.YtmnbpmmilfkjiaaDoor
/-
  The document's both (package check's reference): two rising lists as one, each number once.
-/
namespace Go.Proofs.YtmnbpmmilfkjiaaDoor
open Flo Go.RowKit
def Mono (xs : List Nat) : Prop := ∀ a b, a ≤ b → b < xs.length → xs.getD a 0 ≤ xs.getD b 0
structure Mg (xs ys : List Nat) (i j : Nat) (out : List Nat) : Prop where
  ss : out.Pairwise (· < ·)
  me : ∀ x, x ∈ out ↔ x ∈ xs.take i ∨ x ∈ ys.take j
  lx : ∀ x ∈ out, ∀ k, i ≤ k → k < xs.length → x ≤ xs.getD k 0
  ly : ∀ x ∈ out, ∀ k, j ≤ k → k < ys.length → x ≤ ys.getD k 0
  sz : out.length ≤ i + j
theorem Mg.start (xs ys : List Nat) : Mg xs ys 0 0 [] := ⟨List.Pairwise.nil, by simp, by simp, by simp, by simp⟩
theorem Mg.symm {xs ys out : List Nat} {i j : Nat} (h : Mg xs ys i j out) : Mg ys xs j i out := ⟨h.ss, fun x => by rw [h.me x]; exact Or.comm, h.ly, h.lx, by have := h.sz; omega⟩
theorem take_s {xs : List Nat} {i : Nat} (hi : i < xs.length) : xs.take (i + 1) = xs.take i ++ [xs.getD i 0] := by
  rw [List.take_add_one, List.getElem?_eq_getElem hi]
  simp [List.getD, hi]
theorem Mg.skip {xs ys out : List Nat} {i j : Nat} (h : Mg xs ys i j out) (hi : i < xs.length) (hz : xs.getD i 0 ∈ out) : Mg xs ys (i + 1) j out := by
  refine ⟨h.ss, fun x => ?_, fun x hx k hk hl => h.lx x hx k (by omega) hl, h.ly, by have := h.sz; omega⟩
  rw [take_s hi, List.mem_append, List.mem_singleton, h.me x]
  constructor
  · rintro (h1 | h1)
    · exact .inl (.inl h1)
    · exact .inr h1
  · rintro ((h1 | h1) | h1)
    · exact .inl h1
    · subst h1; exact (h.me _).1 hz
    · exact .inr h1
theorem Mg.add {xs ys out : List Nat} {i j : Nat} (h : Mg xs ys i j out) (hx : Mono xs) (hy : Mono ys) (hi : i < xs.length) (hm : j < ys.length → xs.getD i 0 ≤ ys.getD j 0) (hz : xs.getD i 0 ∉ out) : Mg xs ys (i + 1) j (out ++ [xs.getD i 0]) := by
  refine ⟨?_, fun x => ?_, fun x hx' k hk hl => ?_, fun x hx' k hk hl => ?_, by have := h.sz; rw [List.length_append]; simp; omega⟩
  · rw [List.pairwise_append]
    refine ⟨h.ss, List.pairwise_singleton _ _, fun a ha b hb => ?_⟩
    rw [List.mem_singleton] at hb
    subst hb
    have h1 := h.lx a ha i (Nat.le_refl _) hi
    have h2 : a ≠ xs.getD i 0 := fun e => hz (e ▸ ha)
    omega
  · rw [take_s hi, List.mem_append, List.mem_append, List.mem_singleton, h.me x]
    constructor
    · rintro ((h1 | h1) | h1)
      · exact .inl (.inl h1)
      · exact .inr h1
      · exact .inl (.inr h1)
    · rintro ((h1 | h1) | h1)
      · exact .inl (.inl h1)
      · exact .inr h1
      · exact .inl (.inr h1)
  · rw [List.mem_append, List.mem_singleton] at hx'
    rcases hx' with h1 | rfl
    · exact h.lx x h1 k (by omega) hl
    · exact hx _ _ (by omega) hl
  · rw [List.mem_append, List.mem_singleton] at hx'
    rcases hx' with h1 | rfl
    · exact h.ly x h1 k hk hl
    · exact Nat.le_trans (hm (by omega)) (hy _ _ hk hl)
theorem Mg.last {xs ys o : List Nat} {i j l : Nat} (h : Mg xs ys i j (o ++ [l])) (hi : i < xs.length) (hl : l ≠ xs.getD i 0) : xs.getD i 0 ∉ o ++ [l] := by
  intro hm
  have h1 := h.ss
  rw [List.pairwise_append] at h1
  have h2 := h.lx l (by simp) i (Nat.le_refl _) hi
  rw [List.mem_append, List.mem_singleton] at hm
  rcases hm with h3 | h3
  · have := h1.2.2 _ h3 l (by simp)
    omega
  · exact hl h3.symm
theorem Mg.fin {xs ys out : List Nat} (h : Mg xs ys xs.length ys.length out) (x : Nat) : x ∈ out ↔ x ∈ xs ∨ x ∈ ys := by
  have := h.me x
  rwa [List.take_length, List.take_length] at this
theorem rwl_mono (A J c : Nat) : Mono (rwl A J c) := by
  intro a b h hb
  rw [rwl_len] at hb
  have e : ∀ k, k < c → (rwl A J c).getD k 0 = A + k * J := fun k hk => by simp [rwl, List.getD, hk]
  rw [e a (by omega), e b hb]
  have := Nat.mul_le_mul_right J h
  omega
theorem ownF {w : World} {B L : Nat} {v : Value} {out : List Nat} (h : w.ownsRow B 3 1 v out.length (il out)) (e : out.length = L) : ∃ ov cv, v = .slice ov L cv ∧ ((out = [] ∧ L = 0) ∨ ∃ o l K g f, out = o ++ [l] ∧ L = K + 1 ∧ ov = some ⟨g, f, none⟩ ∧ w.cell? ⟨g, f + K, none⟩ = some (.int .i64 ((l : Nat) : Int))) := by
  obtain ⟨ao, c, rfl, h2⟩ := RdI.of_own h
  refine ⟨ao, c, by rw [e], ?_⟩
  rcases List.eq_nil_or_concat out with rfl | ⟨o, l, rfl⟩
  · exact .inl ⟨rfl, by simpa using e.symm⟩
  · obtain ⟨g, f, rfl, _, h3⟩ := h2 (by simp)
    refine .inr ⟨o, l, o.length, g, f, by simp, by rw [← e]; simp, rfl, ?_⟩
    have := h3 o.length (by simp)
    simpa [List.getD] using this
set_option maxHeartbeats 2000000 in
set_option maxRecDepth 100000 in
theorem dboth_c (xs ys : List Nat) (va vb : Value) (hx : Mono xs) (hy : Mono ys) (hx0 : xs ≠ []) (hy0 : ys ≠ []) (hb : xs.length ≤ 1048576 ∧ ys.length ≤ 1048576) (w : World) (ha : RdI w va xs) (hbb : RdI w vb ys) :
    Calls Tryd.prog 33 #[va, vb] w fun e w' => ∃ v' out, e = .returned v' ∧ Hid (Mg xs ys xs.length ys.length out) ∧ Hid (w'.ownsRow w.heap.size 3 1 v' out.length (il out)) ∧ Below w.heap.size w w' := by
  obtain ⟨ao, ca, rfl, h1⟩ := ha
  obtain ⟨bo, cb, rfl, h2⟩ := hbb
  obtain ⟨b1, o1, rfl, l1, g1⟩ := h1 hx0
  obtain ⟨b2, o2, rfl, l2, g2⟩ := h2 hy0
  obtain ⟨B, hB⟩ : ∃ n, Hid (w.heap.size = n) := ⟨_, (rfl : _ = _)⟩
  obtain ⟨m, hm⟩ : ∃ n, Hid (xs.length = n) := ⟨_, (rfl : _ = _)⟩
  obtain ⟨n, hn⟩ : ∃ n, Hid (ys.length = n) := ⟨_, (rfl : _ = _)⟩
  have cx : Hid (∀ W, Below B w W → ∀ i, i < m → W.cell? ⟨b1, o1 + i, none⟩ = some (.int .i64 ((xs.getD i 0 : Nat) : Int))) := fun W hW i hi => (hW.cell (p := ⟨b1, o1 + i, none⟩) (hB.out ▸ l1)).trans (g1 i (hm.out ▸ hi))
  have cy : Hid (∀ W, Below B w W → ∀ i, i < n → W.cell? ⟨b2, o2 + i, none⟩ = some (.int .i64 ((ys.getD i 0 : Nat) : Int))) := fun W hW i hi => (hW.cell (p := ⟨b2, o2 + i, none⟩) (hB.out ▸ l2)).trans (g2 i (hn.out ▸ hi))
  have hxH : Hid (Mono xs ∧ Mono ys) := ⟨hx, hy⟩
  rw [hm.out, hn.out] at hb ⊢
  rw [hB.out]
  obtain ⟨wa, ewa⟩ : ∃ z, Hid (w.alloc (.cells #[] 3) = z) := ⟨_, (rfl : _ = _)⟩
  have Ba : Hid (Below B w wa) := by rw [← ewa.out]; exact (Below.refl _ _).alloc (Nat.le_of_eq hB.out.symm) _
  have oa : Hid (wa.ownsRow B 3 1 (.slice (some ⟨w.heap.size, 0, none⟩) 0 0) ([] : List Nat).length (il [])) := by rw [← ewa.out]; exact World.ownsRow_made w #[] 0 (Nat.le_of_eq hB.out.symm) (by decide) rfl
  clear hx hy hx0 hy0 h1 h2 l1 l2 g1 g2
  go_enter Tryd.func33, Tryd.ntmps33
  go_wp2
  rw [ewa.out]
  go_loopw [5, 6, 7] (fun a i j wr => ∃ (p q : Nat) (out : List Nat), p ≤ m ∧ q ≤ n ∧ i = .int .i64 p ∧ j = .int .i64 q ∧ Hid (Below B w wr) ∧ Hid (wr.ownsRow B 3 1 a out.length (il out)) ∧ Hid (Mg xs ys p q out)) (fun _ i j _ => m + n - (intOf i).toNat - (intOf j).toNat)
  case atStart => exact ⟨0, 0, [], Nat.zero_le _, Nat.zero_le _, rfl, rfl, Ba.out, oa.out, Mg.start xs ys⟩
  case round =>
    obtain ⟨p, q, out, hp, hq, rfl, rfl, Bk, hown, hmg⟩ := hrel
    have hBr : Hid (B ≤ wr.heap.size) := by have := Bk.out.size; have := hB.out; show _ ≤ _; omega
    obtain ⟨L, hL⟩ : ∃ z, Hid (out.length = z) := ⟨_, (rfl : _ = _)⟩
    have hLb : Hid (L ≤ 2097152) := by have := hmg.out.sz; have := hL.out; show _ ≤ _; omega
    by_cases hj : q = n
    · by_cases hi : p = m
      · subst hj hi
        have f1 : decide ((p : Int) < (p : Int)) = false := decide_eq_false (by omega)
        have f2 : decide ((q : Int) < (q : Int)) = false := decide_eq_false (by omega)
        go_wp2
        go_ret
        exact ⟨_, out, rfl, hmg, hown, Bk.out⟩
      · obtain ⟨x, hx⟩ : ∃ z, Hid (xs.getD p 0 = z) := ⟨_, (rfl : _ = _)⟩
        have hpl : p < xs.length := by rw [hm.out]; omega
        have hA : Hid (x ∉ out → Mg xs ys (p + 1) q (out ++ [x])) := fun h => by rw [← hx.out] at h ⊢; exact (hmg.out.add hxH.out.1 hxH.out.2 hpl (fun h => absurd h (by rw [hn.out]; omega)) h)
        have hS : Hid (x ∈ out → Mg xs ys (p + 1) q out) := fun h => (hmg.out.skip hpl (by rw [hx.out]; exact h))
        have hT : Hid (∀ o l, out = o ++ [l] → l ≠ x → x ∉ out) := fun o l e h => by subst e; rw [← hx.out] at h ⊢; exact hmg.out.last hpl h
        have f1 : (p : Int) < (m : Int) := by omega
        have f3 : ((q : Int) == (n : Int)) = true := by rw [beq_iff_eq]; omega
        obtain ⟨ov, cv, rfl, hc⟩ := ownF hown.out hL.out
        go_upto_region 5 with fail
        go_region
        obtain ⟨wx, ewx⟩ : ∃ z, Hid (wr.drew = z) := ⟨_, (rfl : _ = _)⟩
        have Bx : Hid (Below B w wx) := by rw [← ewx.out]; exact Bk.out.drew
        have ox : Hid (wx.ownsRow B 3 1 (.slice ov L cv) out.length (il out)) := by rw [← ewx.out]; exact hown.out
        have sx : Hid (B ≤ wx.heap.size) := by rw [← ewx.out]; exact hBr.out
        have c1x := cx.out wx Bx.out p (by omega)
        rw [hx.out] at c1x
        have hll : Hid ((out.length + 1) * 8 ≤ 140737488355328) := by show _ ≤ _; rw [hL.out]; have := hLb.out; omega
        rw [ewx.out]
        rcases hc with ⟨rfl, rfl⟩ | ⟨o, l, K, g, f, rfl, rfl, rfl, hc⟩
        · have hfin := hA.out (by simp)
          have hfinH : Hid (Mg xs ys (p + 1) q ([] ++ [x])) := hfin
          clear hfin
          go_wp2_with (first | (at_builtin; refine appI _ rfl _ _ rfl B ([]) x _ _ rfl rfl (ox.out.alloc _) (by simp [go_sem]) hll.out (by simp; exact Nat.le_succ_of_le sx.out) ?_) | fail)
          intro v' w4 ho hg
          have hB4 : Hid (Below B w w4) := (Bx.out.alloc sx.out _).grown hg (by simp; exact Nat.le_succ_of_le sx.out) (fun k' hk' => (ox.out.lt k' hk').1)
          have ho4 : Hid (w4.ownsRow B 3 1 v' (([]) ++ [x]).length (il (([]) ++ [x]))) := by
            show World.ownsRow _ _ _ _ _ _ _; simpa using ho
          clear ho hg
          go_wp2
          go_roundw
          case rel => exact ⟨p + 1, q, ([]) ++ [x], by omega, by omega, by go_num, by go_num, hB4, ho4, hfinH⟩
          case measure => simp [intOf]; omega
        · by_cases hl : l = x
          · subst hl
            have hfinH : Hid (Mg xs ys (p + 1) q (o ++ [l])) := hS.out (by simp)
            have hlast : wx.cell? ⟨g, f + K, none⟩ = some (.int .i64 (l : Int)) := by rw [← ewx.out]; exact hc
            have k1 : (((K + 1 : Nat) : Int) == 0) = false := by rw [beq_eq_false_iff_ne]; omega
            have k2 : wrap64 (K : Int) = (K : Int) := by have := hLb.out; unfold wrap64; omega
            have k0 : ¬ ((K : Int) + 1 = 0) := by omega
            clear hc
            go_wp2
            go_roundw
            case rel => exact ⟨p + 1, q, _, by omega, by omega, by go_num, by go_num, Bx, ox, hfinH⟩
            case measure => simp [intOf]; omega
          · have hfinH : Hid (Mg xs ys (p + 1) q (o ++ [l] ++ [x])) := hA.out (hT.out o l rfl hl)
            have hlast : wx.cell? ⟨g, f + K, none⟩ = some (.int .i64 (l : Int)) := by rw [← ewx.out]; exact hc
            have k1 : (((K + 1 : Nat) : Int) == 0) = false := by rw [beq_eq_false_iff_ne]; omega
            have k2 : wrap64 (K : Int) = (K : Int) := by have := hLb.out; unfold wrap64; omega
            have k0 : ¬ ((K : Int) + 1 = 0) := by omega
            have k3 : ((l : Int) == (x : Int)) = false := by rw [beq_eq_false_iff_ne]; omega
            have k4 : ((l : Int) != (x : Int)) = true := by simp [bne, k3]
            clear hc
            go_wp2_with (first | (at_builtin; refine appI _ rfl _ _ rfl B (o ++ [l]) x _ _ rfl rfl (ox.out.alloc _) (by simp [go_sem]) hll.out (by simp; exact Nat.le_succ_of_le sx.out) ?_) | fail)
            intro v' w4 ho hg
            have hB4 : Hid (Below B w w4) := (Bx.out.alloc sx.out _).grown hg (by simp; exact Nat.le_succ_of_le sx.out) (fun k' hk' => (ox.out.lt k' hk').1)
            have ho4 : Hid (w4.ownsRow B 3 1 v' ((o ++ [l]) ++ [x]).length (il ((o ++ [l]) ++ [x]))) := by
              show World.ownsRow _ _ _ _ _ _ _; simpa using ho
            clear ho hg
            go_wp2
            go_roundw
            case rel => exact ⟨p + 1, q, (o ++ [l]) ++ [x], by omega, by omega, by go_num, by go_num, hB4, ho4, hfinH⟩
            case measure => simp [intOf]; omega
    · by_cases hi : p = m
      · obtain ⟨x, hx⟩ : ∃ z, Hid (ys.getD q 0 = z) := ⟨_, (rfl : _ = _)⟩
        have hpl : q < ys.length := by rw [hn.out]; omega
        have hA : Hid (x ∉ out → Mg xs ys p (q + 1) (out ++ [x])) := fun h => by rw [← hx.out] at h ⊢; exact (hmg.out.symm.add hxH.out.2 hxH.out.1 hpl (fun h => absurd h (by rw [hm.out]; omega)) h).symm
        have hS : Hid (x ∈ out → Mg xs ys p (q + 1) out) := fun h => (hmg.out.symm.skip hpl (by rw [hx.out]; exact h)).symm
        have hT : Hid (∀ o l, out = o ++ [l] → l ≠ x → x ∉ out) := fun o l e h => by subst e; rw [← hx.out] at h ⊢; exact hmg.out.symm.last hpl h
        have f1 : decide ((p : Int) < (m : Int)) = false := decide_eq_false (by omega)
        have f2 : (q : Int) < (n : Int) := by omega
        have f3 : ((q : Int) == (n : Int)) = false := by rw [beq_eq_false_iff_ne]; omega
        obtain ⟨ov, cv, rfl, hc⟩ := ownF hown.out hL.out
        go_upto_region 5 with fail
        go_region
        obtain ⟨wx, ewx⟩ : ∃ z, Hid (wr.drew = z) := ⟨_, (rfl : _ = _)⟩
        have Bx : Hid (Below B w wx) := by rw [← ewx.out]; exact Bk.out.drew
        have ox : Hid (wx.ownsRow B 3 1 (.slice ov L cv) out.length (il out)) := by rw [← ewx.out]; exact hown.out
        have sx : Hid (B ≤ wx.heap.size) := by rw [← ewx.out]; exact hBr.out
        have c1x := cy.out wx Bx.out q (by omega)
        rw [hx.out] at c1x
        have hll : Hid ((out.length + 1) * 8 ≤ 140737488355328) := by show _ ≤ _; rw [hL.out]; have := hLb.out; omega
        rw [ewx.out]
        rcases hc with ⟨rfl, rfl⟩ | ⟨o, l, K, g, f, rfl, rfl, rfl, hc⟩
        · have hfin := hA.out (by simp)
          have hfinH : Hid (Mg xs ys p (q + 1) ([] ++ [x])) := hfin
          clear hfin
          go_wp2_with (first | (at_builtin; refine appI _ rfl _ _ rfl B ([]) x _ _ rfl rfl (ox.out.alloc _) (by simp [go_sem]) hll.out (by simp; exact Nat.le_succ_of_le sx.out) ?_) | fail)
          intro v' w4 ho hg
          have hB4 : Hid (Below B w w4) := (Bx.out.alloc sx.out _).grown hg (by simp; exact Nat.le_succ_of_le sx.out) (fun k' hk' => (ox.out.lt k' hk').1)
          have ho4 : Hid (w4.ownsRow B 3 1 v' (([]) ++ [x]).length (il (([]) ++ [x]))) := by
            show World.ownsRow _ _ _ _ _ _ _; simpa using ho
          clear ho hg
          go_wp2
          go_roundw
          case rel => exact ⟨p, q + 1, ([]) ++ [x], by omega, by omega, by go_num, by go_num, hB4, ho4, hfinH⟩
          case measure => simp [intOf]; omega
        · by_cases hl : l = x
          · subst hl
            have hfinH : Hid (Mg xs ys p (q + 1) (o ++ [l])) := hS.out (by simp)
            have hlast : wx.cell? ⟨g, f + K, none⟩ = some (.int .i64 (l : Int)) := by rw [← ewx.out]; exact hc
            have k1 : (((K + 1 : Nat) : Int) == 0) = false := by rw [beq_eq_false_iff_ne]; omega
            have k2 : wrap64 (K : Int) = (K : Int) := by have := hLb.out; unfold wrap64; omega
            have k0 : ¬ ((K : Int) + 1 = 0) := by omega
            clear hc
            go_wp2
            go_roundw
            case rel => exact ⟨p, q + 1, _, by omega, by omega, by go_num, by go_num, Bx, ox, hfinH⟩
            case measure => simp [intOf]; omega
          · have hfinH : Hid (Mg xs ys p (q + 1) (o ++ [l] ++ [x])) := hA.out (hT.out o l rfl hl)
            have hlast : wx.cell? ⟨g, f + K, none⟩ = some (.int .i64 (l : Int)) := by rw [← ewx.out]; exact hc
            have k1 : (((K + 1 : Nat) : Int) == 0) = false := by rw [beq_eq_false_iff_ne]; omega
            have k2 : wrap64 (K : Int) = (K : Int) := by have := hLb.out; unfold wrap64; omega
            have k0 : ¬ ((K : Int) + 1 = 0) := by omega
            have k3 : ((l : Int) == (x : Int)) = false := by rw [beq_eq_false_iff_ne]; omega
            have k4 : ((l : Int) != (x : Int)) = true := by simp [bne, k3]
            clear hc
            go_wp2_with (first | (at_builtin; refine appI _ rfl _ _ rfl B (o ++ [l]) x _ _ rfl rfl (ox.out.alloc _) (by simp [go_sem]) hll.out (by simp; exact Nat.le_succ_of_le sx.out) ?_) | fail)
            intro v' w4 ho hg
            have hB4 : Hid (Below B w w4) := (Bx.out.alloc sx.out _).grown hg (by simp; exact Nat.le_succ_of_le sx.out) (fun k' hk' => (ox.out.lt k' hk').1)
            have ho4 : Hid (w4.ownsRow B 3 1 v' ((o ++ [l]) ++ [x]).length (il ((o ++ [l]) ++ [x]))) := by
              show World.ownsRow _ _ _ _ _ _ _; simpa using ho
            clear ho hg
            go_wp2
            go_roundw
            case rel => exact ⟨p, q + 1, (o ++ [l]) ++ [x], by omega, by omega, by go_num, by go_num, hB4, ho4, hfinH⟩
            case measure => simp [intOf]; omega
      · have hc1 := cx.out wr Bk.out p (by omega)
        have hc2 := cy.out wr Bk.out q (by omega)
        have f1 : (p : Int) < (m : Int) := by omega
        have f2 : (q : Int) < (n : Int) := by omega
        have f3 : ((q : Int) == (n : Int)) = false := by rw [beq_eq_false_iff_ne]; omega
        by_cases hle : xs.getD p 0 ≤ ys.getD q 0
        · obtain ⟨x, hx⟩ : ∃ z, Hid (xs.getD p 0 = z) := ⟨_, (rfl : _ = _)⟩
          have hpl : p < xs.length := by rw [hm.out]; omega
          have hA : Hid (x ∉ out → Mg xs ys (p + 1) q (out ++ [x])) := fun h => by rw [← hx.out] at h ⊢; exact (hmg.out.add hxH.out.1 hxH.out.2 hpl (fun _ => hle) h)
          have hS : Hid (x ∈ out → Mg xs ys (p + 1) q out) := fun h => (hmg.out.skip hpl (by rw [hx.out]; exact h))
          have hT : Hid (∀ o l, out = o ++ [l] → l ≠ x → x ∉ out) := fun o l e h => by subst e; rw [← hx.out] at h ⊢; exact hmg.out.last hpl h
          obtain ⟨y, hy⟩ : ∃ z, Hid (ys.getD q 0 = z) := ⟨_, (rfl : _ = _)⟩
          rw [hx.out] at hc1 hle
          rw [hy.out] at hc2 hle
          have f4 : decide ((x : Int) ≤ (y : Int)) = true := decide_eq_true (by omega)
          obtain ⟨ov, cv, rfl, hc⟩ := ownF hown.out hL.out
          go_upto_region 5 with fail
          go_region
          obtain ⟨wx, ewx⟩ : ∃ z, Hid (wr.drew = z) := ⟨_, (rfl : _ = _)⟩
          have Bx : Hid (Below B w wx) := by rw [← ewx.out]; exact Bk.out.drew
          have ox : Hid (wx.ownsRow B 3 1 (.slice ov L cv) out.length (il out)) := by rw [← ewx.out]; exact hown.out
          have sx : Hid (B ≤ wx.heap.size) := by rw [← ewx.out]; exact hBr.out
          have c1x := cx.out wx Bx.out p (by omega)
          rw [hx.out] at c1x
          have hll : Hid ((out.length + 1) * 8 ≤ 140737488355328) := by show _ ≤ _; rw [hL.out]; have := hLb.out; omega
          rw [ewx.out]
          clear hc1 hc2 f4 f3 hle
          rcases hc with ⟨rfl, rfl⟩ | ⟨o, l, K, g, f, rfl, rfl, rfl, hc⟩
          · have hfin := hA.out (by simp)
            have hfinH : Hid (Mg xs ys (p + 1) q ([] ++ [x])) := hfin
            clear hfin
            go_wp2_with (first | (at_builtin; refine appI _ rfl _ _ rfl B ([]) x _ _ rfl rfl (ox.out.alloc _) (by simp [go_sem]) hll.out (by simp; exact Nat.le_succ_of_le sx.out) ?_) | fail)
            intro v' w4 ho hg
            have hB4 : Hid (Below B w w4) := (Bx.out.alloc sx.out _).grown hg (by simp; exact Nat.le_succ_of_le sx.out) (fun k' hk' => (ox.out.lt k' hk').1)
            have ho4 : Hid (w4.ownsRow B 3 1 v' (([]) ++ [x]).length (il (([]) ++ [x]))) := by
              show World.ownsRow _ _ _ _ _ _ _; simpa using ho
            clear ho hg
            go_wp2
            go_roundw
            case rel => exact ⟨p + 1, q, ([]) ++ [x], by omega, by omega, by go_num, by go_num, hB4, ho4, hfinH⟩
            case measure => simp [intOf]; omega
          · by_cases hl : l = x
            · subst hl
              have hfinH : Hid (Mg xs ys (p + 1) q (o ++ [l])) := hS.out (by simp)
              have hlast : wx.cell? ⟨g, f + K, none⟩ = some (.int .i64 (l : Int)) := by rw [← ewx.out]; exact hc
              have k1 : (((K + 1 : Nat) : Int) == 0) = false := by rw [beq_eq_false_iff_ne]; omega
              have k2 : wrap64 (K : Int) = (K : Int) := by have := hLb.out; unfold wrap64; omega
              have k0 : ¬ ((K : Int) + 1 = 0) := by omega
              clear hc
              go_wp2
              go_roundw
              case rel => exact ⟨p + 1, q, _, by omega, by omega, by go_num, by go_num, Bx, ox, hfinH⟩
              case measure => simp [intOf]; omega
            · have hfinH : Hid (Mg xs ys (p + 1) q (o ++ [l] ++ [x])) := hA.out (hT.out o l rfl hl)
              have hlast : wx.cell? ⟨g, f + K, none⟩ = some (.int .i64 (l : Int)) := by rw [← ewx.out]; exact hc
              have k1 : (((K + 1 : Nat) : Int) == 0) = false := by rw [beq_eq_false_iff_ne]; omega
              have k2 : wrap64 (K : Int) = (K : Int) := by have := hLb.out; unfold wrap64; omega
              have k0 : ¬ ((K : Int) + 1 = 0) := by omega
              have k3 : ((l : Int) == (x : Int)) = false := by rw [beq_eq_false_iff_ne]; omega
              have k4 : ((l : Int) != (x : Int)) = true := by simp [bne, k3]
              clear hc
              go_wp2_with (first | (at_builtin; refine appI _ rfl _ _ rfl B (o ++ [l]) x _ _ rfl rfl (ox.out.alloc _) (by simp [go_sem]) hll.out (by simp; exact Nat.le_succ_of_le sx.out) ?_) | fail)
              intro v' w4 ho hg
              have hB4 : Hid (Below B w w4) := (Bx.out.alloc sx.out _).grown hg (by simp; exact Nat.le_succ_of_le sx.out) (fun k' hk' => (ox.out.lt k' hk').1)
              have ho4 : Hid (w4.ownsRow B 3 1 v' ((o ++ [l]) ++ [x]).length (il ((o ++ [l]) ++ [x]))) := by
                show World.ownsRow _ _ _ _ _ _ _; simpa using ho
              clear ho hg
              go_wp2
              go_roundw
              case rel => exact ⟨p + 1, q, (o ++ [l]) ++ [x], by omega, by omega, by go_num, by go_num, hB4, ho4, hfinH⟩
              case measure => simp [intOf]; omega
        · obtain ⟨x, hx⟩ : ∃ z, Hid (ys.getD q 0 = z) := ⟨_, (rfl : _ = _)⟩
          have hpl : q < ys.length := by rw [hn.out]; omega
          have hA : Hid (x ∉ out → Mg xs ys p (q + 1) (out ++ [x])) := fun h => by rw [← hx.out] at h ⊢; exact (hmg.out.symm.add hxH.out.2 hxH.out.1 hpl (fun _ => by omega) h).symm
          have hS : Hid (x ∈ out → Mg xs ys p (q + 1) out) := fun h => (hmg.out.symm.skip hpl (by rw [hx.out]; exact h)).symm
          have hT : Hid (∀ o l, out = o ++ [l] → l ≠ x → x ∉ out) := fun o l e h => by subst e; rw [← hx.out] at h ⊢; exact hmg.out.symm.last hpl h
          obtain ⟨y, hy⟩ : ∃ z, Hid (xs.getD p 0 = z) := ⟨_, (rfl : _ = _)⟩
          rw [hx.out] at hc2 hle
          rw [hy.out] at hc1 hle
          have f4 : decide ((y : Int) ≤ (x : Int)) = false := decide_eq_false (by omega)
          obtain ⟨ov, cv, rfl, hc⟩ := ownF hown.out hL.out
          go_upto_region 5 with fail
          go_region
          obtain ⟨wx, ewx⟩ : ∃ z, Hid (wr.drew = z) := ⟨_, (rfl : _ = _)⟩
          have Bx : Hid (Below B w wx) := by rw [← ewx.out]; exact Bk.out.drew
          have ox : Hid (wx.ownsRow B 3 1 (.slice ov L cv) out.length (il out)) := by rw [← ewx.out]; exact hown.out
          have sx : Hid (B ≤ wx.heap.size) := by rw [← ewx.out]; exact hBr.out
          have c1x := cy.out wx Bx.out q (by omega)
          rw [hx.out] at c1x
          have hll : Hid ((out.length + 1) * 8 ≤ 140737488355328) := by show _ ≤ _; rw [hL.out]; have := hLb.out; omega
          rw [ewx.out]
          clear hc1 hc2 f4 f3 hle
          rcases hc with ⟨rfl, rfl⟩ | ⟨o, l, K, g, f, rfl, rfl, rfl, hc⟩
          · have hfin := hA.out (by simp)
            have hfinH : Hid (Mg xs ys p (q + 1) ([] ++ [x])) := hfin
            clear hfin
            go_wp2_with (first | (at_builtin; refine appI _ rfl _ _ rfl B ([]) x _ _ rfl rfl (ox.out.alloc _) (by simp [go_sem]) hll.out (by simp; exact Nat.le_succ_of_le sx.out) ?_) | fail)
            intro v' w4 ho hg
            have hB4 : Hid (Below B w w4) := (Bx.out.alloc sx.out _).grown hg (by simp; exact Nat.le_succ_of_le sx.out) (fun k' hk' => (ox.out.lt k' hk').1)
            have ho4 : Hid (w4.ownsRow B 3 1 v' (([]) ++ [x]).length (il (([]) ++ [x]))) := by
              show World.ownsRow _ _ _ _ _ _ _; simpa using ho
            clear ho hg
            go_wp2
            go_roundw
            case rel => exact ⟨p, q + 1, ([]) ++ [x], by omega, by omega, by go_num, by go_num, hB4, ho4, hfinH⟩
            case measure => simp [intOf]; omega
          · by_cases hl : l = x
            · subst hl
              have hfinH : Hid (Mg xs ys p (q + 1) (o ++ [l])) := hS.out (by simp)
              have hlast : wx.cell? ⟨g, f + K, none⟩ = some (.int .i64 (l : Int)) := by rw [← ewx.out]; exact hc
              have k1 : (((K + 1 : Nat) : Int) == 0) = false := by rw [beq_eq_false_iff_ne]; omega
              have k2 : wrap64 (K : Int) = (K : Int) := by have := hLb.out; unfold wrap64; omega
              have k0 : ¬ ((K : Int) + 1 = 0) := by omega
              clear hc
              go_wp2
              go_roundw
              case rel => exact ⟨p, q + 1, _, by omega, by omega, by go_num, by go_num, Bx, ox, hfinH⟩
              case measure => simp [intOf]; omega
            · have hfinH : Hid (Mg xs ys p (q + 1) (o ++ [l] ++ [x])) := hA.out (hT.out o l rfl hl)
              have hlast : wx.cell? ⟨g, f + K, none⟩ = some (.int .i64 (l : Int)) := by rw [← ewx.out]; exact hc
              have k1 : (((K + 1 : Nat) : Int) == 0) = false := by rw [beq_eq_false_iff_ne]; omega
              have k2 : wrap64 (K : Int) = (K : Int) := by have := hLb.out; unfold wrap64; omega
              have k0 : ¬ ((K : Int) + 1 = 0) := by omega
              have k3 : ((l : Int) == (x : Int)) = false := by rw [beq_eq_false_iff_ne]; omega
              have k4 : ((l : Int) != (x : Int)) = true := by simp [bne, k3]
              clear hc
              go_wp2_with (first | (at_builtin; refine appI _ rfl _ _ rfl B (o ++ [l]) x _ _ rfl rfl (ox.out.alloc _) (by simp [go_sem]) hll.out (by simp; exact Nat.le_succ_of_le sx.out) ?_) | fail)
              intro v' w4 ho hg
              have hB4 : Hid (Below B w w4) := (Bx.out.alloc sx.out _).grown hg (by simp; exact Nat.le_succ_of_le sx.out) (fun k' hk' => (ox.out.lt k' hk').1)
              have ho4 : Hid (w4.ownsRow B 3 1 v' ((o ++ [l]) ++ [x]).length (il ((o ++ [l]) ++ [x]))) := by
                show World.ownsRow _ _ _ _ _ _ _; simpa using ho
              clear ho hg
              go_wp2
              go_roundw
              case rel => exact ⟨p, q + 1, (o ++ [l]) ++ [x], by omega, by omega, by go_num, by go_num, hB4, ho4, hfinH⟩
              case measure => simp [intOf]; omega
end Go.Proofs.YtmnbpmmilfkjiaaDoor
/-
  timbreref15: the table.
-/
namespace Go.Proofs.YtmnbpmmilfkjiaaDoor
open Flo Go.RowKit
theorem wpList_bsl {P : Program} {ops : Array Oper} {rest : List Oper} {o : Oper} {a : Act} {w w' : World} {Q : Exit → Act → World → Prop} (hg : o.guard = none) (t : TypeId) (n : Nat) (parts : Array (Nat × Operand)) (ho : o.op = .buildSlice t n parts) (v : Value)
    (hr : (Instr.buildSlice t n (parts.map fun (i, x) => (i, a.eval x))).run P w = .ok v w') (h : wpList P ops Q rest (a.put o.dst v) w') : wpList P ops Q (o :: rest) a w := by
  refine wpList_plain hg fun _ hK => ?_
  unfold Oper.wp execOp
  simp only [ho, Sem.run_bind, hr, Result.andThen_ok]
  exact hK _ _ h
def rowsA : Array Value := #[.string ⟨#[]⟩, .bool false, .bool false, .bool false, .bool false, .string ⟨#[103, 97, 116, 104, 101, 114]⟩, .bool true, .bool true, .bool false, .bool false, .string ⟨#[115, 99, 97, 116, 116, 101, 114]⟩, .bool true, .bool true, .bool false, .bool false, .string ⟨#[122, 101, 114, 111]⟩, .bool false, .bool false, .bool false, .bool false, .string ⟨#[116, 119, 105, 115, 116]⟩, .bool false, .bool false, .bool true, .bool true, .string ⟨#[102, 108, 121]⟩, .bool false, .bool true, .bool true, .bool false, .string ⟨#[100, 105, 114, 101, 99, 116]⟩, .bool true, .bool true, .bool true, .bool false, .string ⟨#[99, 104, 105, 114, 112]⟩, .bool false, .bool false, .bool true, .bool false, .string ⟨#[102, 105, 108, 108]⟩, .bool false, .bool false, .bool true, .bool false, .string ⟨#[116, 105, 109, 101, 115]⟩, .bool true, .bool false, .bool false, .bool false, .string ⟨#[99, 111, 110, 106]⟩, .bool false, .bool false, .bool false, .bool false, .string ⟨#[111, 118, 101, 114]⟩, .bool false, .bool false, .bool true, .bool false]
set_option maxHeartbeats 1000000 in
theorem rows_c (w : World) : Calls Tryd.prog 36 #[] w fun e w' => e = .returned (.slice (some ⟨w.heap.size, 0, none⟩) 12 12) ∧ w' = w.alloc (.cells rowsA 70) := by
  go_enter Tryd.func36, Tryd.ntmps36
  go_wp2_with (refine wpList_bsl (w' := w.alloc (.cells rowsA 70)) rfl 71 12 _ rfl (.slice (some ⟨w.heap.size, 0, none⟩) 12 12) (by kernel_rfl) ?_)
  go_ret
  exact ⟨rfl, rfl⟩
/-- the table in memory -/
def Rws (w : World) (g : Nat) : Prop := ∀ o, o < 12 → w.cell? ⟨g, o * 5, none⟩ = some (.string (nmb o)) ∧ w.cell? ⟨g, o * 5 + 1, none⟩ = some (.bool (Sp.hs o)) ∧ w.cell? ⟨g, o * 5 + 2, none⟩ = some (.bool (Sp.hj o)) ∧ w.cell? ⟨g, o * 5 + 3, none⟩ = some (.bool (Sp.hn o)) ∧ w.cell? ⟨g, o * 5 + 4, none⟩ = some (.bool (Sp.hk o))
theorem rws_new (w : World) : Rws (w.alloc (.cells rowsA 70)) w.heap.size := by
  have h : ∀ i, (w.alloc (.cells rowsA 70)).cell? ⟨w.heap.size, i, none⟩ = rowsA[i]? := fun i => by simp
  intro o ho
  rw [h, h, h, h, h]
  match o, ho with
  | 0, _ => exact ⟨rfl, rfl, rfl, rfl, rfl⟩
  | 1, _ => exact ⟨rfl, rfl, rfl, rfl, rfl⟩
  | 2, _ => exact ⟨rfl, rfl, rfl, rfl, rfl⟩
  | 3, _ => exact ⟨rfl, rfl, rfl, rfl, rfl⟩
  | 4, _ => exact ⟨rfl, rfl, rfl, rfl, rfl⟩
  | 5, _ => exact ⟨rfl, rfl, rfl, rfl, rfl⟩
  | 6, _ => exact ⟨rfl, rfl, rfl, rfl, rfl⟩
  | 7, _ => exact ⟨rfl, rfl, rfl, rfl, rfl⟩
  | 8, _ => exact ⟨rfl, rfl, rfl, rfl, rfl⟩
  | 9, _ => exact ⟨rfl, rfl, rfl, rfl, rfl⟩
  | 10, _ => exact ⟨rfl, rfl, rfl, rfl, rfl⟩
  | 11, _ => exact ⟨rfl, rfl, rfl, rfl, rfl⟩
theorem Rws.below {w w' : World} {g : Nat} (h : Rws w g) (hb : Below w.heap.size w w') : Rws w' g := fun o ho => by
  obtain ⟨h0, h1, h2, h3, h4⟩ := h o ho
  exact ⟨(hb.cell (cell_lt h0)).trans h0, (hb.cell (cell_lt h1)).trans h1, (hb.cell (cell_lt h2)).trans h2, (hb.cell (cell_lt h3)).trans h3, (hb.cell (cell_lt h4)).trans h4⟩
theorem rows2_c (w : World) : Calls Tryd.prog 36 #[] w fun e w' => e = .returned (.slice (some ⟨w.heap.size, 0, none⟩) 12 12) ∧ Rws w' w.heap.size ∧ Below w.heap.size w w' := by
  refine (rows_c w).mono ?_
  rintro e w' ⟨rfl, rfl⟩
  exact ⟨rfl, rws_new w, (Below.refl _ _).alloc (Nat.le_refl _) _⟩
end Go.Proofs.YtmnbpmmilfkjiaaDoor
/-
  timbreref15: Name, Op.
-/
namespace Go.Proofs.YtmnbpmmilfkjiaaDoor
open Flo Go.RowKit
set_option maxHeartbeats 1000000 in
theorem dname_c (x : Int) (w : World) :
    Calls Tryd.prog 34 #[.int .i64 x] w fun e w' => e = .returned (.tuple #[.string (nmk x), .bool (Sp.kn x)]) ∧ Below w.heap.size w w' := by
  by_cases h1 : x < 1
  · have hf : Hid (Sp.kn x = false) := by unfold Sp.kn; rw [decide_eq_false (by omega), Bool.false_and]; rfl
    have hk : Hid (nmk x = ⟨#[]⟩) := by unfold nmk; rw [hf.out]; rfl
    rw [hf.out, hk.out]
    go_enter Tryd.func34, Tryd.ntmps34
    go_wp2
    go_ret2
    exact ⟨rfl, Below.refl _ _⟩
  · have q1 : decide (x < 1) = false := decide_eq_false h1
    by_cases h2 : 11 < x
    · have hf : Hid (Sp.kn x = false) := by unfold Sp.kn; rw [decide_eq_false (by omega : ¬ x ≤ 11), Bool.and_false]; rfl
      have hk : Hid (nmk x = ⟨#[]⟩) := by unfold nmk; rw [hf.out]; rfl
      rw [hf.out, hk.out]
      go_enter Tryd.func34, Tryd.ntmps34
      go_wp2
      go_ret2
      exact ⟨rfl, Below.refl _ _⟩
    · obtain ⟨o, rfl⟩ : ∃ o : Nat, x = (o : Int) := ⟨x.toNat, by omega⟩
      have hf : Hid (Sp.kn (o : Int) = true) := Sp.kn_iff.2 ⟨by omega, by omega⟩
      have hk : Hid (nmk (o : Int) = nmb o) := by unfold nmk; rw [hf.out]; rfl
      rw [hf.out, hk.out]
      have q2 : decide ((11 : Int) < (o : Int)) = false := decide_eq_false h2
      have q3 : (o : Int) < 12 := by omega
      have q4 : o < 12 := by omega
      clear h1 h2
      go_enter Tryd.func34, Tryd.ntmps34
      go_wp2_with fail
      refine (rows2_c _).mono ?_
      rintro e w1 ⟨rfl, R1, B1⟩
      obtain ⟨z0, _⟩ := R1 o q4
      have hB : Hid (Below w.heap.size w w1) := B1
      clear B1 R1
      go_wp2
      go_ret2
      exact ⟨rfl, hB.out⟩
end Go.Proofs.YtmnbpmmilfkjiaaDoor
/-
  timbreref15: within, number, Form.
-/
namespace Go.Proofs.YtmnbpmmilfkjiaaDoor
open Flo Go.RowKit
theorem dwithin_c (x lo hi : Int) (b : Bool) (hb : Sp.wi x lo hi = b) (w : World) :
    Calls Tryd.prog 35 #[.int .i64 x, .int .i64 lo, .int .i64 hi] w fun e w' => e = .returned (.bool b) ∧ w = w' := by
  subst hb
  by_cases h1 : lo ≤ x
  · by_cases h2 : x ≤ hi
    · have hf : Hid (Sp.wi x lo hi = true) := Sp.wi_iff.2 ⟨h1, h2⟩
      rw [hf.out]
      go_enter Tryd.func35, Tryd.ntmps35
      go_wp2
      go_ret
      exact ⟨rfl, rfl⟩
    · have hf : Hid (Sp.wi x lo hi = false) := by unfold Sp.wi; rw [decide_eq_false h2, Bool.and_false]; rfl
      rw [hf.out]
      have q2 : decide (x ≤ hi) = false := decide_eq_false h2
      go_enter Tryd.func35, Tryd.ntmps35
      go_wp2
      go_ret
      exact ⟨rfl, rfl⟩
  · have hf : Hid (Sp.wi x lo hi = false) := by unfold Sp.wi; rw [decide_eq_false h1, Bool.false_and]; rfl
    rw [hf.out]
    have q1 : decide (lo ≤ x) = false := decide_eq_false h1
    go_enter Tryd.func35, Tryd.ntmps35
    go_wp2
    go_ret
    exact ⟨rfl, rfl⟩
/-- a Bool of a comparison -/
theorem dnum_ret {b c : Bool} (h : b = c) : Ending.returned (.bool b) = .returned (.bool c) := by rw [h]
set_option maxHeartbeats 4000000 in
theorem dnumber_c (s : Sp.St) (w : World) :
    Calls Tryd.prog 37 #[sv s] w fun e w' => e = .returned (.bool (Sp.num s)) ∧ Below w.heap.size w w' := by
  obtain ⟨op, dst, src, jump, count, n, k⟩ := s
  obtain ⟨wa, ewa⟩ : ∃ wa, Hid (w.alloc (.cells #[.int .i64 op, .int .i64 dst, .int .i64 src, .int .i64 jump, .int .i64 count, .int .i64 n, .int .i64 k] 39) = wa) := ⟨_, (rfl : _ = _)⟩
  have Ba : Hid (Below w.heap.size w wa) := by rw [← ewa.out]; exact (Below.refl _ _).alloc (Nat.le_refl _) _
  have X2 : Bst wa w.heap.size op dst src jump count n k := by rw [← ewa.out]; exact Bst.new w op dst src jump count n k
  obtain ⟨y0, y1, y2, y3, y4, y5, y6⟩ := X2
  unfold sv sva
  by_cases h4 : op = 4
  · subst h4
    obtain ⟨b, hb⟩ : ∃ b, Hid (Sp.wi n 1 16384 = b) := ⟨_, (rfl : _ = _)⟩
    have hf : Hid (Sp.num ⟨4, dst, src, jump, count, n, k⟩ = (b && Sp.wi k 0 (n - 1))) := by show _ = _; rw [← hb.out]; rfl
    rw [hf.out]
    have hw : b = true → wrap64 (n - 1) = n - 1 ∧ wrap64 (wrap64 (2 * n) - 1) = 2 * n - 1 := fun e => Sp.w1 (Sp.wi_iff.1 (hb.out.trans e))
    have hwr : wrap64 (2 * n) = wrap64 (2 * n) := rfl
    go_enter Tryd.func37, Tryd.ntmps37
    go_upto_region 1 with fail
    rw [ewa.out]
    go_wp2_with fail
    refine (dwithin_c _ _ _ b hb.out wa).mono ?_
    rintro e w1 ⟨rfl, rfl⟩
    cases b with
    | false =>
      go_wp2_with fail
      go_ret
      exact ⟨rfl, Ba.out⟩
    | true =>
      obtain ⟨e1, e2⟩ := hw rfl
      clear hw hwr hf hb
      go_wp2_with fail
      rw [e1]
      refine (dwithin_c _ _ _ _ rfl wa).mono ?_
      rintro e w1 ⟨rfl, rfl⟩
      go_wp2_with fail
      go_ret
      exact ⟨dnum_ret (by simp), Ba.out⟩
  by_cases h5 : op = 5
  · subst h5
    obtain ⟨b, hb⟩ : ∃ b, Hid (Sp.wi n 2 5 = b) := ⟨_, (rfl : _ = _)⟩
    have hf : Hid (Sp.num ⟨5, dst, src, jump, count, n, k⟩ = (b && decide (count ≤ jump))) := by show _ = _; rw [← hb.out]; rfl
    rw [hf.out]
    clear hf
    go_enter Tryd.func37, Tryd.ntmps37
    go_upto_region 1 with fail
    rw [ewa.out]
    go_wp2_with fail
    refine (dwithin_c _ _ _ b hb.out wa).mono ?_
    rintro e w1 ⟨rfl, rfl⟩
    cases b with
    | false =>
      go_wp2_with fail
      go_ret
      exact ⟨rfl, Ba.out⟩
    | true =>
      clear hb
      generalize hz : decide (count ≤ jump) = z
      go_wp2_with fail
      go_ret
      exact ⟨dnum_ret (by simp [hz]), Ba.out⟩
  by_cases h6 : op = 6
  · subst h6
    obtain ⟨b, hb⟩ : ∃ b, Hid (Sp.wi n 1 64 = b) := ⟨_, (rfl : _ = _)⟩
    have hf : Hid (Sp.num ⟨6, dst, src, jump, count, n, k⟩ = (b && decide (count ≤ n))) := by show _ = _; rw [← hb.out]; rfl
    rw [hf.out]
    clear hf
    go_enter Tryd.func37, Tryd.ntmps37
    go_upto_region 1 with fail
    rw [ewa.out]
    go_wp2_with fail
    refine (dwithin_c _ _ _ b hb.out wa).mono ?_
    rintro e w1 ⟨rfl, rfl⟩
    cases b with
    | false =>
      go_wp2_with fail
      go_ret
      exact ⟨rfl, Ba.out⟩
    | true =>
      clear hb
      generalize hz : decide (count ≤ n) = z
      go_wp2_with fail
      go_ret
      exact ⟨dnum_ret (by simp [hz]), Ba.out⟩
  by_cases h7 : op = 7
  · subst h7
    obtain ⟨b, hb⟩ : ∃ b, Hid (Sp.wi n 1 16384 = b) := ⟨_, (rfl : _ = _)⟩
    have hf : Hid (Sp.num ⟨7, dst, src, jump, count, n, k⟩ = (b && decide (count ≤ n))) := by show _ = _; rw [← hb.out]; rfl
    rw [hf.out]
    clear hf
    go_enter Tryd.func37, Tryd.ntmps37
    go_upto_region 1 with fail
    rw [ewa.out]
    go_wp2_with fail
    refine (dwithin_c _ _ _ b hb.out wa).mono ?_
    rintro e w1 ⟨rfl, rfl⟩
    cases b with
    | false =>
      go_wp2_with fail
      go_ret
      exact ⟨rfl, Ba.out⟩
    | true =>
      clear hb
      generalize hz : decide (count ≤ n) = z
      go_wp2_with fail
      go_ret
      exact ⟨dnum_ret (by simp [hz]), Ba.out⟩
  by_cases h8 : op = 8
  · subst h8
    obtain ⟨b, hb⟩ : ∃ b, Hid (Sp.wi n 1 16384 = b) := ⟨_, (rfl : _ = _)⟩
    have hf : Hid (Sp.num ⟨8, dst, src, jump, count, n, k⟩ = (b && Sp.wi count (2 * n - 1) 16384)) := by show _ = _; rw [← hb.out]; rfl
    rw [hf.out]
    have hw : b = true → wrap64 (n - 1) = n - 1 ∧ wrap64 (wrap64 (2 * n) - 1) = 2 * n - 1 := fun e => Sp.w1 (Sp.wi_iff.1 (hb.out.trans e))
    have hwr : wrap64 (2 * n) = wrap64 (2 * n) := rfl
    go_enter Tryd.func37, Tryd.ntmps37
    go_upto_region 1 with fail
    rw [ewa.out]
    go_wp2_with fail
    refine (dwithin_c _ _ _ b hb.out wa).mono ?_
    rintro e w1 ⟨rfl, rfl⟩
    cases b with
    | false =>
      go_wp2_with fail
      go_ret
      exact ⟨rfl, Ba.out⟩
    | true =>
      obtain ⟨e1, e2⟩ := hw rfl
      clear hw hwr hf hb
      obtain ⟨m, hm⟩ : ∃ m, Hid (2 * n - 1 = m) := ⟨_, (rfl : _ = _)⟩
      obtain ⟨u, hu⟩ : ∃ u, Hid (wrap64 (2 * n) = u) := ⟨_, (rfl : _ = _)⟩
      go_wp2_with fail
      rw [e2]
      refine (dwithin_c _ _ _ _ rfl wa).mono ?_
      rintro e w1 ⟨rfl, rfl⟩
      go_wp2_with fail
      go_ret
      exact ⟨dnum_ret (by simp), Ba.out⟩
  by_cases h11 : op = 11
  · subst h11
    obtain ⟨b, hb⟩ : ∃ b, Hid (Sp.wi n 1 16384 = b) := ⟨_, (rfl : _ = _)⟩
    have hf : Hid (Sp.num ⟨11, dst, src, jump, count, n, k⟩ = b) := by show _ = _; rw [← hb.out]; rfl
    rw [hf.out]
    go_enter Tryd.func37, Tryd.ntmps37
    go_upto_region 1 with fail
    rw [ewa.out]
    go_wp2_with fail
    refine (dwithin_c _ _ _ b hb.out wa).mono ?_
    rintro e w1 ⟨rfl, rfl⟩
    go_wp2_with fail
    go_ret
    exact ⟨rfl, Ba.out⟩
  have hf : Hid (Sp.num ⟨op, dst, src, jump, count, n, k⟩ = true) := by show _ = _; unfold Sp.num; simp only [h4, h5, h6, h7, h8, h11, if_false]
  rw [hf.out]
  have q4 : (op == 4) = false := beq_eq_false_iff_ne.2 h4
  have q5 : (op == 5) = false := beq_eq_false_iff_ne.2 h5
  have q6 : (op == 6) = false := beq_eq_false_iff_ne.2 h6
  have q7 : (op == 7) = false := beq_eq_false_iff_ne.2 h7
  have q8 : (op == 8) = false := beq_eq_false_iff_ne.2 h8
  have q11 : (op == 11) = false := beq_eq_false_iff_ne.2 h11
  clear h4 h5 h6 h7 h8 h11
  go_enter Tryd.func37, Tryd.ntmps37
  go_upto_region 1 with fail
  rw [ewa.out]
  go_wp2_with fail
  go_ret
  exact ⟨rfl, Ba.out⟩
end Go.Proofs.YtmnbpmmilfkjiaaDoor
/-
  timbreref15: Form.
-/
namespace Go.Proofs.YtmnbpmmilfkjiaaDoor
open Flo Go.RowKit
/-- Form's answer -/
def fnn (b : Bool) : Int := bif b then 0 else 9
/-- behind the row's load -/
structure CutF (w wx : World) (g : Nat) (o : Nat) (op dst src jump count n k : Int) : Prop where
  st : Bst wx w.heap.size op dst src jump count n k
  c1 : wx.cell? ⟨g, 1, none⟩ = some (.bool (Sp.hs o))
  c2 : wx.cell? ⟨g, 2, none⟩ = some (.bool (Sp.hj o))
  c3 : wx.cell? ⟨g, 3, none⟩ = some (.bool (Sp.hn o))
  c4 : wx.cell? ⟨g, 4, none⟩ = some (.bool (Sp.hk o))
  be : Below w.heap.size w wx
theorem cutF_new {w w1 w5 : World} {o : Nat} {op dst src jump count n k : Int} (XH : Hid (Bst w1 w.heap.size op dst src jump count n k)) (B7 : Hid (Below w1.heap.size w1 w5)) (hB : Hid (Below w.heap.size w w1)) :
    Hid (CutF w (w5.alloc (.cells #[.string (nmb o), .bool (Sp.hs o), .bool (Sp.hj o), .bool (Sp.hn o), .bool (Sp.hk o)] 70)) w5.heap.size o op dst src jump count n k) :=
  ⟨XH.out.below (B7.out.alloc B7.out.size _), by simp, by simp, by simp, by simp, (hB.out.trans (B7.out.mono hB.out.size)).alloc (Nat.le_trans hB.out.size B7.out.size) _⟩
theorem cutF_set {w w1 w5 : World} {o : Nat} {op dst src jump count n k : Int} (XH : Hid (Bst w1 w.heap.size op dst src jump count n k)) (B7 : Hid (Below w1.heap.size w1 w5)) (hB : Hid (Below w.heap.size w w1))
    {v1 v2 v3 v4 : Value} (x1 : w5.cell? ⟨w1.heap.size, 1, none⟩ = some v1) (x2 : w5.cell? ⟨w1.heap.size, 2, none⟩ = some v2) (x3 : w5.cell? ⟨w1.heap.size, 3, none⟩ = some v3) (x4 : w5.cell? ⟨w1.heap.size, 4, none⟩ = some v4) :
    Hid (CutF w (((((w5.setCell ⟨w1.heap.size, 0, none⟩ (.string (nmb o))).setCell ⟨w1.heap.size, 1, none⟩ (.bool (Sp.hs o))).setCell ⟨w1.heap.size, 2, none⟩ (.bool (Sp.hj o))).setCell ⟨w1.heap.size, 3, none⟩ (.bool (Sp.hn o))).setCell ⟨w1.heap.size, 4, none⟩ (.bool (Sp.hk o))) w1.heap.size o op dst src jump count n k) := by
  have B9 : Below w1.heap.size w1 (((((w5.setCell ⟨w1.heap.size, 0, none⟩ (.string (nmb o))).setCell ⟨w1.heap.size, 1, none⟩ (.bool (Sp.hs o))).setCell ⟨w1.heap.size, 2, none⟩ (.bool (Sp.hj o))).setCell ⟨w1.heap.size, 3, none⟩ (.bool (Sp.hn o))).setCell ⟨w1.heap.size, 4, none⟩ (.bool (Sp.hk o))) :=
    ((((B7.out.setCell (Nat.le_refl _) _).setCell (Nat.le_refl _) _).setCell (Nat.le_refl _) _).setCell (Nat.le_refl _) _).setCell (Nat.le_refl _) _
  refine ⟨XH.out.below B9, ?_, ?_, ?_, ?_, hB.out.trans (B9.mono hB.out.size)⟩
  · simp [World.cell?_setCell_other, World.cell?_setCell_same, x1]
  · simp [World.cell?_setCell_other, World.cell?_setCell_same, x2]
  · simp [World.cell?_setCell_other, World.cell?_setCell_same, x3]
  · simp [World.cell?_setCell_other, World.cell?_setCell_same, x4]
set_option maxHeartbeats 8000000 in
set_option maxRecDepth 100000 in
theorem dform_c (s : Sp.St) (w : World) :
    Calls Tryd.prog 24 #[sv s] w fun e w' => e = .returned (.int .i64 (fnn (Sp.fm s))) ∧ Below w.heap.size w w' := by
  rw [← Sp.dfm_eq]
  obtain ⟨op, dst, src, jump, count, n, k⟩ := s
  obtain ⟨wa, ewa⟩ : ∃ wa, Hid (w.alloc (.cells #[.int .i64 op, .int .i64 dst, .int .i64 src, .int .i64 jump, .int .i64 count, .int .i64 n, .int .i64 k] 39) = wa) := ⟨_, (rfl : _ = _)⟩
  have Ba : Hid (Below w.heap.size w wa) := by rw [← ewa.out]; exact (Below.refl _ _).alloc (Nat.le_refl _) _
  have X2 : Hid (Bst wa w.heap.size op dst src jump count n k) := by show Bst _ _ _ _ _ _ _ _ _; rw [← ewa.out]; exact Bst.new w op dst src jump count n k
  have hnm : Hid (Calls Tryd.prog 34 #[.int .i64 op] wa fun e w' => e = .returned (.tuple #[.string (nmk op), .bool (Sp.kn op)]) ∧ Below wa.heap.size wa w') := dname_c op wa
  have hnu : Hid (∀ W, Calls Tryd.prog 37 #[sv ⟨op, dst, src, jump, count, n, k⟩] W fun e w' => e = .returned (.bool (Sp.num ⟨op, dst, src, jump, count, n, k⟩)) ∧ Below W.heap.size W w') := fun W => dnumber_c _ W
  unfold Sp.dfm
  simp only
  obtain ⟨kb, hkb⟩ : ∃ b, Hid (Sp.kn op = b) := ⟨_, (rfl : _ = _)⟩
  obtain ⟨b1, hb1⟩ : ∃ b, Hid (Sp.wi dst 0 262143 = b) := ⟨_, (rfl : _ = _)⟩
  obtain ⟨b2, hb2⟩ : ∃ b, Hid (Sp.wi count 1 262144 = b) := ⟨_, (rfl : _ = _)⟩
  obtain ⟨nb, hnb⟩ : ∃ b, Hid (Sp.num ⟨op, dst, src, jump, count, n, k⟩ = b) := ⟨_, (rfl : _ = _)⟩
  obtain ⟨gb, hgb⟩ : ∃ b, Hid (Sp.dgood op.toNat ⟨op, dst, src, jump, count, n, k⟩ = b) := ⟨_, (rfl : _ = _)⟩
  rw [hkb.out] at hnm
  rw [hnb.out] at hnu
  rw [hkb.out, hb1.out, hb2.out, hnb.out, hgb.out]
  generalize nmk op = nm at hnm
  unfold sv sva at *
  go_enter Tryd.func24, Tryd.ntmps24
  go_upto_region 1 with fail
  rw [ewa.out]
  obtain ⟨y0, y1, y2, y3, y4, y5, y6⟩ := X2.out
  go_wp2_with fail
  refine hnm.out.mono ?_
  rintro e w1 ⟨rfl, B1⟩
  have Xs := X2.out.below B1
  have hB1 : Hid (Below w.heap.size w w1) := Ba.out.trans (B1.mono Ba.out.size)
  clear y0 y1 y2 y3 y4 y5 y6 B1 Ba X2 ewa hnm
  have XH : Hid (Bst w1 w.heap.size op dst src jump count n k) := Xs
  obtain ⟨y0, y1, y2, y3, y4, y5, y6⟩ := Xs
  cases kb with
  | false =>
    go_wp2_with fail
    go_ret
    exact ⟨rfl, hB1.out⟩
  | true =>
  go_wp2_with fail
  refine (dwithin_c _ _ _ b1 hb1.out w1).mono ?_
  rintro e w2 ⟨rfl, rfl⟩
  cases b1 with
  | false =>
    go_wp2_with fail
    go_ret
    exact ⟨rfl, hB1.out⟩
  | true =>
  go_wp2_with fail
  refine (dwithin_c _ _ _ b2 hb2.out w1).mono ?_
  rintro e w2 ⟨rfl, rfl⟩
  cases b2 with
  | false =>
    go_wp2_with fail
    go_ret
    exact ⟨rfl, hB1.out⟩
  | true =>
  obtain ⟨o, rfl⟩ : ∃ o : Nat, op = (o : Int) := ⟨op.toNat, by have := Sp.kn_iff.1 hkb.out; omega⟩
  have q4 : o < 12 := by have := Sp.kn_iff.1 hkb.out; omega
  have q3 : (o : Int) < 12 := by omega
  rw [Int.toNat_natCast] at hgb
  go_upto_region 4 with fail
  go_cut [5] (fun r wx => ∃ g : Nat, r = .pointer (some ⟨g, 0, none⟩) ∧ Hid (CutF w wx g o o dst src jump count n k))
  case first =>
    have yd0 : ∀ X, (w1.alloc X).cell? ⟨w.heap.size, 0, none⟩ = some (.int .i64 (o : Int)) := fun X => cell_alloc y0 X
    first
    | (go_region_with (first
        | (go_at_call 36
           refine (rows2_c w1.drew).mono ?_
           rintro e w5 ⟨rfl, R5, B5⟩
           have R6 : Rws w5 w1.heap.size := R5
           obtain ⟨z0, z1, z2, z3, z4⟩ := R6 o q4
           clear R6
           have zz0 := fun X => cell_alloc z0 X
           have zz1 := fun X => cell_alloc z1 X
           have zz2 := fun X => cell_alloc z2 X
           have zz3 := fun X => cell_alloc z3 X
           have zz4 := fun X => cell_alloc z4 X
           have B6 : Below w1.heap.size w1 w5 := (Below.refl _ _).drew.trans B5
           have B7 : Hid (Below w1.heap.size w1 w5) := B6
           obtain ⟨y0, y1, y2, y3, y4, y5, y6⟩ := XH.out.below B6
           have yy0 := fun X => cell_alloc y0 X
           clear B5 B6 R5)
        | (go_at_call 36
           refine (rows2_c (w1.alloc (.cells #[.string ⟨#[]⟩, .bool false, .bool false, .bool false, .bool false] 70)).drew).mono ?_
           rintro e w5 ⟨rfl, R5, B5⟩
           have R6 : Rws w5 (w1.heap.size + 1) := by simpa [World.drew] using R5
           obtain ⟨z0, z1, z2, z3, z4⟩ := R6 o q4
           clear R6
           have B6 : Below w1.heap.size w1 w5 := ((Below.refl _ _).alloc (Nat.le_refl _) _).drew.trans (B5.mono (by simp [World.drew]))
           have B7 : Hid (Below w1.heap.size w1 w5) := B6
           obtain ⟨y0, y1, y2, y3, y4, y5, y6⟩ := XH.out.below B6
           have B8 : Hid (Below (w1.alloc (.cells #[.string ⟨#[]⟩, .bool false, .bool false, .bool false, .bool false] 70)).drew.heap.size (w1.alloc (.cells #[.string ⟨#[]⟩, .bool false, .bool false, .bool false, .bool false] 70)).drew w5) := B5
           have x0 := (B5.cell (p := ⟨w1.heap.size, 0, none⟩) (by simp [World.drew])).trans (by simp : (w1.alloc (.cells #[.string ⟨#[]⟩, .bool false, .bool false, .bool false, .bool false] 70)).drew.cell? ⟨w1.heap.size, 0, none⟩ = some (.string ⟨#[]⟩))
           have x1 := (B5.cell (p := ⟨w1.heap.size, 1, none⟩) (by simp [World.drew])).trans (by simp : (w1.alloc (.cells #[.string ⟨#[]⟩, .bool false, .bool false, .bool false, .bool false] 70)).drew.cell? ⟨w1.heap.size, 1, none⟩ = some (.bool false))
           have x2 := (B5.cell (p := ⟨w1.heap.size, 2, none⟩) (by simp [World.drew])).trans (by simp : (w1.alloc (.cells #[.string ⟨#[]⟩, .bool false, .bool false, .bool false, .bool false] 70)).drew.cell? ⟨w1.heap.size, 2, none⟩ = some (.bool false))
           have x3 := (B5.cell (p := ⟨w1.heap.size, 3, none⟩) (by simp [World.drew])).trans (by simp : (w1.alloc (.cells #[.string ⟨#[]⟩, .bool false, .bool false, .bool false, .bool false] 70)).drew.cell? ⟨w1.heap.size, 3, none⟩ = some (.bool false))
           have x4 := (B5.cell (p := ⟨w1.heap.size, 4, none⟩) (by simp [World.drew])).trans (by simp : (w1.alloc (.cells #[.string ⟨#[]⟩, .bool false, .bool false, .bool false, .bool false] 70)).drew.cell? ⟨w1.heap.size, 4, none⟩ = some (.bool false))
           have f0 : w5.frozen? ⟨w1.heap.size, 0, none⟩ = false := (World.frozen?_of_block (a := ⟨w1.heap.size, 0, none⟩) (B5.block w1.heap.size (by simp [World.drew]))).trans (by simp : (w1.alloc (.cells #[.string ⟨#[]⟩, .bool false, .bool false, .bool false, .bool false] 70)).drew.frozen? ⟨w1.heap.size, 0, none⟩ = false)
           have f1 : w5.frozen? ⟨w1.heap.size, 1, none⟩ = false := (World.frozen?_of_block (a := ⟨w1.heap.size, 1, none⟩) (B5.block w1.heap.size (by simp [World.drew]))).trans (by simp : (w1.alloc (.cells #[.string ⟨#[]⟩, .bool false, .bool false, .bool false, .bool false] 70)).drew.frozen? ⟨w1.heap.size, 1, none⟩ = false)
           have f2 : w5.frozen? ⟨w1.heap.size, 2, none⟩ = false := (World.frozen?_of_block (a := ⟨w1.heap.size, 2, none⟩) (B5.block w1.heap.size (by simp [World.drew]))).trans (by simp : (w1.alloc (.cells #[.string ⟨#[]⟩, .bool false, .bool false, .bool false, .bool false] 70)).drew.frozen? ⟨w1.heap.size, 2, none⟩ = false)
           have f3 : w5.frozen? ⟨w1.heap.size, 3, none⟩ = false := (World.frozen?_of_block (a := ⟨w1.heap.size, 3, none⟩) (B5.block w1.heap.size (by simp [World.drew]))).trans (by simp : (w1.alloc (.cells #[.string ⟨#[]⟩, .bool false, .bool false, .bool false, .bool false] 70)).drew.frozen? ⟨w1.heap.size, 3, none⟩ = false)
           have f4 : w5.frozen? ⟨w1.heap.size, 4, none⟩ = false := (World.frozen?_of_block (a := ⟨w1.heap.size, 4, none⟩) (B5.block w1.heap.size (by simp [World.drew]))).trans (by simp : (w1.alloc (.cells #[.string ⟨#[]⟩, .bool false, .bool false, .bool false, .bool false] 70)).drew.frozen? ⟨w1.heap.size, 4, none⟩ = false)
           clear B5 B6 R5)))
    | fail
    all_goals (
      go_wp2_with fail
      go_meet
      case rel =>
        refine ⟨_, rfl, ?_⟩
        first
        | with_reducible exact cutF_new XH B7 hB1
        | with_reducible exact cutF_set XH B7 hB1 x1 x2 x3 x4)
  case rest =>
    obtain ⟨g, rfl, hC⟩ := hcut
    clear y0 y1 y2 y3 y4 y5 y6 XH hB1
    obtain ⟨y0, y1, y2, y3, y4, y5, y6⟩ := hC.out.st
    have z1 := hC.out.c1
    have z2 := hC.out.c2
    have z3 := hC.out.c3
    have z4 := hC.out.c4
    have hBc : Hid (Below w.heap.size w wc) := hC.out.be
    unfold Sp.dgood at hgb
    simp only at hgb
    obtain ⟨bS, hbS⟩ : ∃ b, Hid (Sp.wi src 0 262143 = b) := ⟨_, (rfl : _ = _)⟩
    obtain ⟨bJ, hbJ⟩ : ∃ b, Hid (Sp.wi jump 1 262144 = b) := ⟨_, (rfl : _ = _)⟩
    obtain ⟨zS, hzS⟩ : ∃ b, (src == 0) = b := ⟨_, rfl⟩
    obtain ⟨zJ, hzJ⟩ : ∃ b, (jump == 0) = b := ⟨_, rfl⟩
    obtain ⟨zN, hzN⟩ : ∃ b, (n == 0) = b := ⟨_, rfl⟩
    obtain ⟨zK, hzK⟩ : ∃ b, (k == 0) = b := ⟨_, rfl⟩
    rw [hbS.out, hbJ.out, hzS, hzJ, hzN, hzK] at hgb
    generalize Sp.hs o = f1 at z1 hgb
    generalize Sp.hj o = f2 at z2 hgb
    generalize Sp.hn o = f3 at z3 hgb
    generalize Sp.hk o = f4 at z4 hgb
    clear hkb hnb hC q3 q4
    obtain ⟨g1, hg1⟩ : ∃ b, Hid ((bS && (f1 || zS)) = b) := ⟨_, (rfl : _ = _)⟩
    obtain ⟨g2, hg2⟩ : ∃ b, Hid ((g1 && (bif f2 then bJ else zJ)) = b) := ⟨_, (rfl : _ = _)⟩
    obtain ⟨g3, hg3⟩ : ∃ b, Hid ((g2 && (f3 || zN)) = b) := ⟨_, (rfl : _ = _)⟩
    rw [hg1.out, hg2.out, hg3.out] at hgb
    go_upto_region 5 with fail
    go_cut [6] (fun r wx => r = .bool g1 ∧ wx = wc)
    case first =>
      go_wp2_with fail
      refine (dwithin_c _ _ _ bS hbS.out wc).mono ?_
      rintro e w2 ⟨rfl, rfl⟩
      cases bS with
      | false =>
        go_wp2_with fail
        go_meet
        case rel => exact ⟨congrArg Value.bool hg1.out, rfl⟩
      | true =>
      cases f1 with
      | true =>
        go_wp2_with fail
        go_meet
        case rel => exact ⟨congrArg Value.bool hg1.out, rfl⟩
      | false =>
        go_wp2_with fail
        go_meet
        case rel => exact ⟨congrArg Value.bool hg1.out, rfl⟩
    case rest =>
      obtain ⟨rfl, rfl⟩ := hcut
      clear hg1 hbS hzS z1
      go_upto_region 6 with fail
      go_cut [45] (fun r wx => r = .bool f2 ∧ wx = wc)
      case first =>
        go_wp2_with fail
        go_meet
        case rel => exact ⟨rfl, rfl⟩
      case rest =>
        obtain ⟨rfl, rfl⟩ := hcut
        go_upto_if 45 with fail
        go_cut [6] (fun r wx => r = .bool g2 ∧ wx = wc)
        case first =>
          cases f2 with
          | true =>
            cases g1 with
            | true =>
              go_wp2_with fail
              refine (dwithin_c _ _ _ bJ hbJ.out wc).mono ?_
              rintro e w2 ⟨rfl, rfl⟩
              go_wp2_with fail
              go_meet
              case rel => exact ⟨congrArg Value.bool hg2.out, rfl⟩
            | false =>
              go_wp2_with fail
              go_meet
              case rel => exact ⟨congrArg Value.bool hg2.out, rfl⟩
          | false =>
            cases g1 with
            | true =>
              go_wp2_with fail
              go_meet
              case rel => exact ⟨congrArg Value.bool hg2.out, rfl⟩
            | false =>
              go_wp2_with fail
              go_meet
              case rel => exact ⟨congrArg Value.bool hg2.out, rfl⟩
        case rest =>
          obtain ⟨rfl, rfl⟩ := hcut
          clear hg2 hbJ hzJ z2
          go_upto_region 9 with fail
          go_cut [6] (fun r wx => r = .bool gb ∧ wx = wc)
          case first =>
            cases g2 with
            | false =>
              go_wp2_with fail
              go_meet
              case rel => exact ⟨congrArg Value.bool (by rw [← hgb.out, ← hg3.out]; rfl), rfl⟩
            | true =>
              cases f3 with
              | true =>
                cases f4 with
                | true =>
                  go_wp2_with fail
                  go_meet
                  case rel => exact ⟨congrArg Value.bool (by rw [← hgb.out, ← hg3.out]; rfl), rfl⟩
                | false =>
                  go_wp2_with fail
                  go_meet
                  case rel => exact ⟨congrArg Value.bool (by rw [← hgb.out, ← hg3.out]; rfl), rfl⟩
              | false =>
                cases zN with
                | true =>
                  cases f4 with
                  | true =>
                    go_wp2_with fail
                    go_meet
                    case rel => exact ⟨congrArg Value.bool (by rw [← hgb.out, ← hg3.out]; rfl), rfl⟩
                  | false =>
                    go_wp2_with fail
                    go_meet
                    case rel => exact ⟨congrArg Value.bool (by rw [← hgb.out, ← hg3.out]; rfl), rfl⟩
                | false =>
                  go_wp2_with fail
                  go_meet
                  case rel => exact ⟨congrArg Value.bool (by rw [← hgb.out, ← hg3.out]; rfl), rfl⟩
          case rest =>
            obtain ⟨rfl, rfl⟩ := hcut
            clear hgb hg3 hzN hzK z3 z4
            cases gb with
            | false =>
              go_wp2_with fail
              go_ret
              exact ⟨rfl, hBc.out⟩
            | true =>
              go_wp2_with fail
              refine (hnu.out wc).mono ?_
              rintro e w2 ⟨rfl, B2⟩
              have hB2 : Hid (Below w.heap.size w w2) := hBc.out.trans (B2.mono hBc.out.size)
              clear B2 y0 y1 y2 y3 y4 y5 y6
              cases nb with
              | false =>
                go_wp2_with fail
                go_ret
                exact ⟨rfl, hB2.out⟩
              | true =>
                go_wp2_with fail
                go_ret
                exact ⟨rfl, hB2.out⟩
end Go.Proofs.YtmnbpmmilfkjiaaDoor
/-
  The document's Touched (package check's reference), operation by operation.
-/
namespace Go.Proofs.YtmnbpmmilfkjiaaDoor
open Flo Go.RowKit
/-- what Touched tells of a step in form -/
def DtX (x y : List Nat) (w : World) (e : Ending) (w' : World) : Prop :=
  ∃ va vb, e = .returned (.tuple #[va, vb, .int .i64 0]) ∧ w'.ownsRow w.heap.size 3 1 va x.length (il x) ∧ w'.ownsRow w.heap.size 3 1 vb y.length (il y) ∧ Below w.heap.size w w'
theorem ow_none {w : World} {B : Nat} : w.ownsRow B 3 1 (.slice none 0 0) ([] : List Nat).length (il []) := ⟨rfl, .inl ⟨rfl, rfl⟩⟩
set_option maxHeartbeats 2000000 in
set_option maxRecDepth 100000 in
theorem ktd1_c (d s j c n : Nat) (k : Int) (w : World) (hfm : Sp.fm ⟨1, d, s, j, c, n, k⟩ = true) (hd : d ≤ 262143) (hs : s ≤ 262143) (hj : j ≤ 262144) (hc : c ≤ 262144) :
    Calls Tryd.prog 20 #[sv ⟨1, d, s, j, c, n, k⟩] w fun e w' => DtX (rwl s j c) (rwl d 1 c) w e w' := by
  obtain ⟨g, hg⟩ : ∃ g, Hid (w.heap.size = g) := ⟨_, (rfl : _ = _)⟩
  obtain ⟨wa, ewa⟩ : ∃ wa, Hid (w.alloc (.cells #[.int .i64 1, .int .i64 d, .int .i64 s, .int .i64 j, .int .i64 c, .int .i64 n, .int .i64 k] 39) = wa) := ⟨_, (rfl : _ = _)⟩
  have Ba : Hid (Below w.heap.size w wa) := by rw [← ewa.out]; exact (Below.refl _ _).alloc (Nat.le_refl _) _
  have X1 : Hid (Bst wa g 1 d s j c n k) := by show Bst _ _ _ _ _ _ _ _ _; rw [← ewa.out, ← hg.out]; exact Bst.new w _ _ _ _ _ _ _
  have hF : Hid (Calls Tryd.prog 24 #[sv ⟨1, d, s, j, c, n, k⟩] wa fun e w' => e = .returned (.int .i64 0) ∧ Below wa.heap.size wa w') := by
    have := dform_c ⟨1, d, s, j, c, n, k⟩ wa
    rw [hfm] at this
    exact this
  have r1 : Hid (∀ W, Calls Tryd.prog 32 #[.int .i64 (d : Int), .int .i64 1, .int .i64 (c : Int)] W fun e w' => ∃ v', e = .returned v' ∧ w'.ownsRow W.heap.size 3 1 v' (rwl d 1 c).length (il (rwl d 1 c)) ∧ Below W.heap.size W w') := fun W => drow_c d 1 c (by omega) (by omega) (by omega) W
  have r2 : Hid (∀ W, Calls Tryd.prog 32 #[.int .i64 ((s : Nat) : Int), .int .i64 ((j : Nat) : Int), .int .i64 ((c : Nat) : Int)] W fun e w' => ∃ v', e = .returned v' ∧ w'.ownsRow W.heap.size 3 1 v' (rwl s j c).length (il (rwl s j c)) ∧ Below W.heap.size W w') := fun W => drow_c s j c (by omega) (by omega) (by omega) W
  obtain ⟨P, hP⟩ : ∃ P : Ending → World → Prop, Hid ((fun e w' => DtX (rwl s j c) (rwl d 1 c) w e w') = P) := ⟨_, (rfl : _ = _)⟩
  rw [hP.out]
  clear hfm hd hs hj hc
  unfold sv sva at *
  go_enter Tryd.func20, Tryd.ntmps20
  go_upto_region 1 with fail
  rw [ewa.out, hg.out]
  obtain ⟨y0, y1, y2, y3, y4, y5, y6⟩ := X1.out
  go_wp2_with fail
  refine hF.out.mono ?_
  rintro e w1 ⟨rfl, B1⟩
  have hB1 : Hid (Below w.heap.size w w1) := Ba.out.trans (B1.mono Ba.out.size)
  have X2 : Hid (Bst w1 g 1 d s j c n k) := X1.out.below B1
  clear y0 y1 y2 y3 y4 y5 y6 B1 hF
  obtain ⟨y0, y1, y2, y3, y4, y5, y6⟩ := X2.out
  go_wp2_with fail
  refine (r1.out w1).mono ?_
  rintro e w2 ⟨vb, rfl, O2, B2⟩
  have hB2 : Hid (Below w.heap.size w w2) := hB1.out.trans (B2.mono hB1.out.size)
  have O2H : Hid (w2.ownsRow w.heap.size 3 1 vb (rwl d 1 c).length (il (rwl d 1 c))) := base8 O2 hB1.out.size
  have X3 : Hid (Bst w2 g 1 d s j c n k) := X2.out.below B2
  clear y0 y1 y2 y3 y4 y5 y6 B2 O2 r1
  obtain ⟨y0, y1, y2, y3, y4, y5, y6⟩ := X3.out
  go_wp2_with fail
  refine (r2.out w2).mono ?_
  rintro e w3 ⟨va, rfl, O3, B3⟩
  have hB3 : Hid (Below w.heap.size w w3) := hB2.out.trans (B3.mono hB2.out.size)
  have hfin : Hid (DtX (rwl s j c) (rwl d 1 c) w (.returned (.tuple #[va, vb, .int .i64 0])) w3) := ⟨va, vb, rfl, base8 O3 hB2.out.size, ow8 O2H.out B3, hB3.out⟩
  clear y0 y1 y2 y3 y4 y5 y6 B3 O3 r2
  go_wp2
  refine bodyPost_ret (v := .tuple #[va, vb, .int .i64 0]) (by simp [results, Tryd.results20, go_sem]) rfl ?_
  rw [← hP.out]
  exact hfin.out
set_option maxHeartbeats 2000000 in
set_option maxRecDepth 100000 in
theorem ktd3_c (d s j c n : Nat) (k : Int) (w : World) (hfm : Sp.fm ⟨3, d, s, j, c, n, k⟩ = true) (hd : d ≤ 262143) (_ : s ≤ 262143) (_ : j ≤ 262144) (hc : c ≤ 262144) :
    Calls Tryd.prog 20 #[sv ⟨3, d, s, j, c, n, k⟩] w fun e w' => DtX ([]) (rwl d 1 c) w e w' := by
  obtain ⟨g, hg⟩ : ∃ g, Hid (w.heap.size = g) := ⟨_, (rfl : _ = _)⟩
  obtain ⟨wa, ewa⟩ : ∃ wa, Hid (w.alloc (.cells #[.int .i64 3, .int .i64 d, .int .i64 s, .int .i64 j, .int .i64 c, .int .i64 n, .int .i64 k] 39) = wa) := ⟨_, (rfl : _ = _)⟩
  have Ba : Hid (Below w.heap.size w wa) := by rw [← ewa.out]; exact (Below.refl _ _).alloc (Nat.le_refl _) _
  have X1 : Hid (Bst wa g 3 d s j c n k) := by show Bst _ _ _ _ _ _ _ _ _; rw [← ewa.out, ← hg.out]; exact Bst.new w _ _ _ _ _ _ _
  have hF : Hid (Calls Tryd.prog 24 #[sv ⟨3, d, s, j, c, n, k⟩] wa fun e w' => e = .returned (.int .i64 0) ∧ Below wa.heap.size wa w') := by
    have := dform_c ⟨3, d, s, j, c, n, k⟩ wa
    rw [hfm] at this
    exact this
  have r1 : Hid (∀ W, Calls Tryd.prog 32 #[.int .i64 (d : Int), .int .i64 1, .int .i64 (c : Int)] W fun e w' => ∃ v', e = .returned v' ∧ w'.ownsRow W.heap.size 3 1 v' (rwl d 1 c).length (il (rwl d 1 c)) ∧ Below W.heap.size W w') := fun W => drow_c d 1 c (by omega) (by omega) (by omega) W
  obtain ⟨P, hP⟩ : ∃ P : Ending → World → Prop, Hid ((fun e w' => DtX ([]) (rwl d 1 c) w e w') = P) := ⟨_, (rfl : _ = _)⟩
  rw [hP.out]
  clear hfm hd hc
  unfold sv sva at *
  go_enter Tryd.func20, Tryd.ntmps20
  go_upto_region 1 with fail
  rw [ewa.out, hg.out]
  obtain ⟨y0, y1, y2, y3, y4, y5, y6⟩ := X1.out
  go_wp2_with fail
  refine hF.out.mono ?_
  rintro e w1 ⟨rfl, B1⟩
  have hB1 : Hid (Below w.heap.size w w1) := Ba.out.trans (B1.mono Ba.out.size)
  have X2 : Hid (Bst w1 g 3 d s j c n k) := X1.out.below B1
  clear y0 y1 y2 y3 y4 y5 y6 B1 hF
  obtain ⟨y0, y1, y2, y3, y4, y5, y6⟩ := X2.out
  go_wp2_with fail
  refine (r1.out w1).mono ?_
  rintro e w2 ⟨vb, rfl, O2, B2⟩
  have hB2 : Hid (Below w.heap.size w w2) := hB1.out.trans (B2.mono hB1.out.size)
  have O2H : Hid (w2.ownsRow w.heap.size 3 1 vb (rwl d 1 c).length (il (rwl d 1 c))) := base8 O2 hB1.out.size
  have X3 : Hid (Bst w2 g 3 d s j c n k) := X2.out.below B2
  clear y0 y1 y2 y3 y4 y5 y6 B2 O2 r1
  obtain ⟨y0, y1, y2, y3, y4, y5, y6⟩ := X3.out
  have hfin : Hid (DtX ([]) (rwl d 1 c) w (.returned (.tuple #[.slice none 0 0, vb, .int .i64 0])) w2) := ⟨_, vb, rfl, ow_none, O2H.out, hB2.out⟩
  go_wp2
  refine bodyPost_ret (v := .tuple #[.slice none 0 0, vb, .int .i64 0]) (by simp [results, Tryd.results20, go_sem]) rfl ?_
  rw [← hP.out]
  exact hfin.out
set_option maxHeartbeats 2000000 in
set_option maxRecDepth 100000 in
theorem ktd8_c (d s j c n : Nat) (k : Int) (w : World) (hfm : Sp.fm ⟨8, d, s, j, c, n, k⟩ = true) (hd : d ≤ 262143) (_ : s ≤ 262143) (_ : j ≤ 262144) (hc : c ≤ 262144) :
    Calls Tryd.prog 20 #[sv ⟨8, d, s, j, c, n, k⟩] w fun e w' => DtX ([]) (rwl d 1 c) w e w' := by
  obtain ⟨g, hg⟩ : ∃ g, Hid (w.heap.size = g) := ⟨_, (rfl : _ = _)⟩
  obtain ⟨wa, ewa⟩ : ∃ wa, Hid (w.alloc (.cells #[.int .i64 8, .int .i64 d, .int .i64 s, .int .i64 j, .int .i64 c, .int .i64 n, .int .i64 k] 39) = wa) := ⟨_, (rfl : _ = _)⟩
  have Ba : Hid (Below w.heap.size w wa) := by rw [← ewa.out]; exact (Below.refl _ _).alloc (Nat.le_refl _) _
  have X1 : Hid (Bst wa g 8 d s j c n k) := by show Bst _ _ _ _ _ _ _ _ _; rw [← ewa.out, ← hg.out]; exact Bst.new w _ _ _ _ _ _ _
  have hF : Hid (Calls Tryd.prog 24 #[sv ⟨8, d, s, j, c, n, k⟩] wa fun e w' => e = .returned (.int .i64 0) ∧ Below wa.heap.size wa w') := by
    have := dform_c ⟨8, d, s, j, c, n, k⟩ wa
    rw [hfm] at this
    exact this
  have r1 : Hid (∀ W, Calls Tryd.prog 32 #[.int .i64 (d : Int), .int .i64 1, .int .i64 (c : Int)] W fun e w' => ∃ v', e = .returned v' ∧ w'.ownsRow W.heap.size 3 1 v' (rwl d 1 c).length (il (rwl d 1 c)) ∧ Below W.heap.size W w') := fun W => drow_c d 1 c (by omega) (by omega) (by omega) W
  obtain ⟨P, hP⟩ : ∃ P : Ending → World → Prop, Hid ((fun e w' => DtX ([]) (rwl d 1 c) w e w') = P) := ⟨_, (rfl : _ = _)⟩
  rw [hP.out]
  clear hfm hd hc
  unfold sv sva at *
  go_enter Tryd.func20, Tryd.ntmps20
  go_upto_region 1 with fail
  rw [ewa.out, hg.out]
  obtain ⟨y0, y1, y2, y3, y4, y5, y6⟩ := X1.out
  go_wp2_with fail
  refine hF.out.mono ?_
  rintro e w1 ⟨rfl, B1⟩
  have hB1 : Hid (Below w.heap.size w w1) := Ba.out.trans (B1.mono Ba.out.size)
  have X2 : Hid (Bst w1 g 8 d s j c n k) := X1.out.below B1
  clear y0 y1 y2 y3 y4 y5 y6 B1 hF
  obtain ⟨y0, y1, y2, y3, y4, y5, y6⟩ := X2.out
  go_wp2_with fail
  refine (r1.out w1).mono ?_
  rintro e w2 ⟨vb, rfl, O2, B2⟩
  have hB2 : Hid (Below w.heap.size w w2) := hB1.out.trans (B2.mono hB1.out.size)
  have O2H : Hid (w2.ownsRow w.heap.size 3 1 vb (rwl d 1 c).length (il (rwl d 1 c))) := base8 O2 hB1.out.size
  have X3 : Hid (Bst w2 g 8 d s j c n k) := X2.out.below B2
  clear y0 y1 y2 y3 y4 y5 y6 B2 O2 r1
  obtain ⟨y0, y1, y2, y3, y4, y5, y6⟩ := X3.out
  have hfin : Hid (DtX ([]) (rwl d 1 c) w (.returned (.tuple #[.slice none 0 0, vb, .int .i64 0])) w2) := ⟨_, vb, rfl, ow_none, O2H.out, hB2.out⟩
  go_wp2
  refine bodyPost_ret (v := .tuple #[.slice none 0 0, vb, .int .i64 0]) (by simp [results, Tryd.results20, go_sem]) rfl ?_
  rw [← hP.out]
  exact hfin.out
set_option maxHeartbeats 2000000 in
set_option maxRecDepth 100000 in
theorem ktd6_c (d s j c n : Nat) (k : Int) (w : World) (hfm : Sp.fm ⟨6, d, s, j, c, n, k⟩ = true) (hd : d ≤ 262143) (hs : s ≤ 262143) (hj : j ≤ 262144) (hc : c ≤ 262144) (hn : n ≤ 16384) :
    Calls Tryd.prog 20 #[sv ⟨6, d, s, j, c, n, k⟩] w fun e w' => DtX (rwl s j n) (rwl d 1 c) w e w' := by
  obtain ⟨g, hg⟩ : ∃ g, Hid (w.heap.size = g) := ⟨_, (rfl : _ = _)⟩
  obtain ⟨wa, ewa⟩ : ∃ wa, Hid (w.alloc (.cells #[.int .i64 6, .int .i64 d, .int .i64 s, .int .i64 j, .int .i64 c, .int .i64 n, .int .i64 k] 39) = wa) := ⟨_, (rfl : _ = _)⟩
  have Ba : Hid (Below w.heap.size w wa) := by rw [← ewa.out]; exact (Below.refl _ _).alloc (Nat.le_refl _) _
  have X1 : Hid (Bst wa g 6 d s j c n k) := by show Bst _ _ _ _ _ _ _ _ _; rw [← ewa.out, ← hg.out]; exact Bst.new w _ _ _ _ _ _ _
  have hF : Hid (Calls Tryd.prog 24 #[sv ⟨6, d, s, j, c, n, k⟩] wa fun e w' => e = .returned (.int .i64 0) ∧ Below wa.heap.size wa w') := by
    have := dform_c ⟨6, d, s, j, c, n, k⟩ wa
    rw [hfm] at this
    exact this
  have r1 : Hid (∀ W, Calls Tryd.prog 32 #[.int .i64 (d : Int), .int .i64 1, .int .i64 (c : Int)] W fun e w' => ∃ v', e = .returned v' ∧ w'.ownsRow W.heap.size 3 1 v' (rwl d 1 c).length (il (rwl d 1 c)) ∧ Below W.heap.size W w') := fun W => drow_c d 1 c (by omega) (by omega) (by omega) W
  have r2 : Hid (∀ W, Calls Tryd.prog 32 #[.int .i64 ((s : Nat) : Int), .int .i64 ((j : Nat) : Int), .int .i64 ((n : Nat) : Int)] W fun e w' => ∃ v', e = .returned v' ∧ w'.ownsRow W.heap.size 3 1 v' (rwl s j n).length (il (rwl s j n)) ∧ Below W.heap.size W w') := fun W => drow_c s j n (by omega) (by omega) (by omega) W
  obtain ⟨P, hP⟩ : ∃ P : Ending → World → Prop, Hid ((fun e w' => DtX (rwl s j n) (rwl d 1 c) w e w') = P) := ⟨_, (rfl : _ = _)⟩
  rw [hP.out]
  clear hfm hd hs hj hc hn
  unfold sv sva at *
  go_enter Tryd.func20, Tryd.ntmps20
  go_upto_region 1 with fail
  rw [ewa.out, hg.out]
  obtain ⟨y0, y1, y2, y3, y4, y5, y6⟩ := X1.out
  go_wp2_with fail
  refine hF.out.mono ?_
  rintro e w1 ⟨rfl, B1⟩
  have hB1 : Hid (Below w.heap.size w w1) := Ba.out.trans (B1.mono Ba.out.size)
  have X2 : Hid (Bst w1 g 6 d s j c n k) := X1.out.below B1
  clear y0 y1 y2 y3 y4 y5 y6 B1 hF
  obtain ⟨y0, y1, y2, y3, y4, y5, y6⟩ := X2.out
  go_wp2_with fail
  refine (r1.out w1).mono ?_
  rintro e w2 ⟨vb, rfl, O2, B2⟩
  have hB2 : Hid (Below w.heap.size w w2) := hB1.out.trans (B2.mono hB1.out.size)
  have O2H : Hid (w2.ownsRow w.heap.size 3 1 vb (rwl d 1 c).length (il (rwl d 1 c))) := base8 O2 hB1.out.size
  have X3 : Hid (Bst w2 g 6 d s j c n k) := X2.out.below B2
  clear y0 y1 y2 y3 y4 y5 y6 B2 O2 r1
  obtain ⟨y0, y1, y2, y3, y4, y5, y6⟩ := X3.out
  go_wp2_with fail
  refine (r2.out w2).mono ?_
  rintro e w3 ⟨va, rfl, O3, B3⟩
  have hB3 : Hid (Below w.heap.size w w3) := hB2.out.trans (B3.mono hB2.out.size)
  have hfin : Hid (DtX (rwl s j n) (rwl d 1 c) w (.returned (.tuple #[va, vb, .int .i64 0])) w3) := ⟨va, vb, rfl, base8 O3 hB2.out.size, ow8 O2H.out B3, hB3.out⟩
  clear y0 y1 y2 y3 y4 y5 y6 B3 O3 r2
  go_wp2
  refine bodyPost_ret (v := .tuple #[va, vb, .int .i64 0]) (by simp [results, Tryd.results20, go_sem]) rfl ?_
  rw [← hP.out]
  exact hfin.out
end Go.Proofs.YtmnbpmmilfkjiaaDoor
/-
  The document's Touched (package check's reference), operation by operation.
-/
namespace Go.Proofs.YtmnbpmmilfkjiaaDoor
open Flo Go.RowKit
theorem rwl_ne {A J c : Nat} (h : 1 ≤ c) : rwl A J c ≠ [] := fun e => by have := rwl_len A J c; rw [e] at this; simp at this; omega
set_option maxHeartbeats 2000000 in
set_option maxRecDepth 100000 in
theorem ktd9_c (d s j c n : Nat) (k : Int) (w : World) (hfm : Sp.fm ⟨9, d, s, j, c, n, k⟩ = true) (hd : d ≤ 262143) (hs : s ≤ 262143) (_ : j ≤ 262144) (hc : c ≤ 262144) (hc1 : 1 ≤ c) :
    Calls Tryd.prog 20 #[sv ⟨9, d, s, j, c, n, k⟩] w fun e w' => ∃ x, Mg (rwl d 1 c) (rwl s 1 c) (rwl d 1 c).length (rwl s 1 c).length x ∧ DtX x (rwl d 1 c) w e w' := by
  obtain ⟨g, hg⟩ : ∃ g, Hid (w.heap.size = g) := ⟨_, (rfl : _ = _)⟩
  obtain ⟨wa, ewa⟩ : ∃ wa, Hid (w.alloc (.cells #[.int .i64 9, .int .i64 d, .int .i64 s, .int .i64 j, .int .i64 c, .int .i64 n, .int .i64 k] 39) = wa) := ⟨_, (rfl : _ = _)⟩
  have Ba : Hid (Below w.heap.size w wa) := by rw [← ewa.out]; exact (Below.refl _ _).alloc (Nat.le_refl _) _
  have X1 : Hid (Bst wa g 9 d s j c n k) := by show Bst _ _ _ _ _ _ _ _ _; rw [← ewa.out, ← hg.out]; exact Bst.new w _ _ _ _ _ _ _
  have hF : Hid (Calls Tryd.prog 24 #[sv ⟨9, d, s, j, c, n, k⟩] wa fun e w' => e = .returned (.int .i64 0) ∧ Below wa.heap.size wa w') := by
    have := dform_c ⟨9, d, s, j, c, n, k⟩ wa
    rw [hfm] at this
    exact this
  have r1 : Hid (∀ W, Calls Tryd.prog 32 #[.int .i64 (d : Int), .int .i64 1, .int .i64 (c : Int)] W fun e w' => ∃ v', e = .returned v' ∧ w'.ownsRow W.heap.size 3 1 v' (rwl d 1 c).length (il (rwl d 1 c)) ∧ Below W.heap.size W w') := fun W => drow_c d 1 c (by omega) (by omega) (by omega) W
  have r2 : Hid (∀ W, Calls Tryd.prog 32 #[.int .i64 (s : Int), .int .i64 1, .int .i64 (c : Int)] W fun e w' => ∃ v', e = .returned v' ∧ w'.ownsRow W.heap.size 3 1 v' (rwl s 1 c).length (il (rwl s 1 c)) ∧ Below W.heap.size W w') := fun W => drow_c s 1 c (by omega) (by omega) (by omega) W
  obtain ⟨P, hP⟩ : ∃ P : Ending → World → Prop, Hid ((fun e w' => ∃ x, Mg (rwl d 1 c) (rwl s 1 c) (rwl d 1 c).length (rwl s 1 c).length x ∧ DtX x (rwl d 1 c) w e w') = P) := ⟨_, (rfl : _ = _)⟩
  rw [hP.out]
  clear hfm hd hs
  unfold sv sva at *
  go_enter Tryd.func20, Tryd.ntmps20
  go_upto_region 1 with fail
  rw [ewa.out, hg.out]
  obtain ⟨y0, y1, y2, y3, y4, y5, y6⟩ := X1.out
  go_wp2_with fail
  refine hF.out.mono ?_
  rintro e w1 ⟨rfl, B1⟩
  have hB1 : Hid (Below w.heap.size w w1) := Ba.out.trans (B1.mono Ba.out.size)
  have X2 : Hid (Bst w1 g 9 d s j c n k) := X1.out.below B1
  clear y0 y1 y2 y3 y4 y5 y6 B1 hF
  obtain ⟨y0, y1, y2, y3, y4, y5, y6⟩ := X2.out
  go_wp2_with fail
  refine (r1.out w1).mono ?_
  rintro e w2 ⟨vb, rfl, O2, B2⟩
  have hB2 : Hid (Below w.heap.size w w2) := hB1.out.trans (B2.mono hB1.out.size)
  have O2H : Hid (w2.ownsRow w.heap.size 3 1 vb (rwl d 1 c).length (il (rwl d 1 c))) := base8 O2 hB1.out.size
  have X3 : Hid (Bst w2 g 9 d s j c n k) := X2.out.below B2
  clear y0 y1 y2 y3 y4 y5 y6 B2 O2 r1
  obtain ⟨y0, y1, y2, y3, y4, y5, y6⟩ := X3.out
  have hcc : Hid (1 ≤ c ∧ c ≤ 262144) := ⟨hc1, hc⟩
  clear hc1 hc
  go_wp2_with fail
  refine (r2.out w2).mono ?_
  rintro e w3 ⟨va, rfl, O3, B3⟩
  have hB3 : Hid (Below w.heap.size w w3) := hB2.out.trans (B3.mono hB2.out.size)
  have O23 : Hid (w3.ownsRow w.heap.size 3 1 vb (rwl d 1 c).length (il (rwl d 1 c))) := ow8 O2H.out B3
  have hbo : Hid (Calls Tryd.prog 33 #[vb, va] w3 fun e w' => ∃ v' out, e = .returned v' ∧ Hid (Mg (rwl d 1 c) (rwl s 1 c) (rwl d 1 c).length (rwl s 1 c).length out) ∧ Hid (w'.ownsRow w3.heap.size 3 1 v' out.length (il out)) ∧ Below w3.heap.size w3 w') :=
    dboth_c _ _ vb va (rwl_mono _ _ _) (rwl_mono _ _ _) (rwl_ne hcc.out.1) (rwl_ne hcc.out.1) (by rw [rwl_len, rwl_len]; have := hcc.out; omega) w3 (RdI.of_own O23.out) (RdI.of_own O3)
  clear y0 y1 y2 y3 y4 y5 y6 B3 O3 r2
  go_wp2_with fail
  refine hbo.out.mono ?_
  rintro e w4 ⟨vc, out, rfl, hM, O4, B4⟩
  have hB4 : Hid (Below w.heap.size w w4) := hB3.out.trans (B4.mono hB3.out.size)
  have hfin : Hid (∃ x, Mg (rwl d 1 c) (rwl s 1 c) (rwl d 1 c).length (rwl s 1 c).length x ∧ DtX x (rwl d 1 c) w (.returned (.tuple #[vc, vb, .int .i64 0])) w4) := ⟨out, hM.out, vc, vb, rfl, base8 O4.out hB3.out.size, ow8 O23.out B4, hB4.out⟩
  clear B4 O4 hM hbo
  go_wp2
  refine bodyPost_ret (v := .tuple #[vc, vb, .int .i64 0]) (by simp [results, Tryd.results20, go_sem]) rfl ?_
  rw [← hP.out]
  exact hfin.out
set_option maxHeartbeats 2000000 in
set_option maxRecDepth 100000 in
theorem ktd2_c (d s j c n : Nat) (k : Int) (w : World) (hfm : Sp.fm ⟨2, d, s, j, c, n, k⟩ = true) (hd : d ≤ 262143) (hs : s ≤ 262143) (hj : j ≤ 262144) (hc : c ≤ 262144) :
    Calls Tryd.prog 20 #[sv ⟨2, d, s, j, c, n, k⟩] w fun e w' => DtX (rwl s 1 c) (rwl d j c) w e w' := by
  obtain ⟨g, hg⟩ : ∃ g, Hid (w.heap.size = g) := ⟨_, (rfl : _ = _)⟩
  obtain ⟨wa, ewa⟩ : ∃ wa, Hid (w.alloc (.cells #[.int .i64 2, .int .i64 d, .int .i64 s, .int .i64 j, .int .i64 c, .int .i64 n, .int .i64 k] 39) = wa) := ⟨_, (rfl : _ = _)⟩
  have Ba : Hid (Below w.heap.size w wa) := by rw [← ewa.out]; exact (Below.refl _ _).alloc (Nat.le_refl _) _
  have X1 : Hid (Bst wa g 2 d s j c n k) := by show Bst _ _ _ _ _ _ _ _ _; rw [← ewa.out, ← hg.out]; exact Bst.new w _ _ _ _ _ _ _
  have hF : Hid (Calls Tryd.prog 24 #[sv ⟨2, d, s, j, c, n, k⟩] wa fun e w' => e = .returned (.int .i64 0) ∧ Below wa.heap.size wa w') := by
    have := dform_c ⟨2, d, s, j, c, n, k⟩ wa
    rw [hfm] at this
    exact this
  have r1 : Hid (∀ W, Calls Tryd.prog 32 #[.int .i64 (d : Int), .int .i64 1, .int .i64 (c : Int)] W fun e w' => ∃ v', e = .returned v' ∧ w'.ownsRow W.heap.size 3 1 v' (rwl d 1 c).length (il (rwl d 1 c)) ∧ Below W.heap.size W w') := fun W => drow_c d 1 c (by omega) (by omega) (by omega) W
  obtain ⟨P, hP⟩ : ∃ P : Ending → World → Prop, Hid ((fun e w' => DtX (rwl s 1 c) (rwl d j c) w e w') = P) := ⟨_, (rfl : _ = _)⟩
  rw [hP.out]
  clear hfm
  unfold sv sva at *
  go_enter Tryd.func20, Tryd.ntmps20
  go_upto_region 1 with fail
  rw [ewa.out, hg.out]
  obtain ⟨y0, y1, y2, y3, y4, y5, y6⟩ := X1.out
  go_wp2_with fail
  refine hF.out.mono ?_
  rintro e w1 ⟨rfl, B1⟩
  have hB1 : Hid (Below w.heap.size w w1) := Ba.out.trans (B1.mono Ba.out.size)
  have X2 : Hid (Bst w1 g 2 d s j c n k) := X1.out.below B1
  clear y0 y1 y2 y3 y4 y5 y6 B1 hF
  obtain ⟨y0, y1, y2, y3, y4, y5, y6⟩ := X2.out
  go_wp2_with fail
  refine (r1.out w1).mono ?_
  rintro e w2 ⟨vb, rfl, O2, B2⟩
  have hB2 : Hid (Below w.heap.size w w2) := hB1.out.trans (B2.mono hB1.out.size)
  have O2H : Hid (w2.ownsRow w.heap.size 3 1 vb (rwl d 1 c).length (il (rwl d 1 c))) := base8 O2 hB1.out.size
  have X3 : Hid (Bst w2 g 2 d s j c n k) := X2.out.below B2
  clear y0 y1 y2 y3 y4 y5 y6 B2 O2 r1
  obtain ⟨y0, y1, y2, y3, y4, y5, y6⟩ := X3.out
  have B0 : Below w2.heap.size w2 w2 := Below.refl _ _
  have r2 : Hid (∀ W, Below w2.heap.size w2 W → Calls Tryd.prog 32 #[.int .i64 (s : Int), .int .i64 1, .int .i64 (c : Int)] W fun e w' => ∃ v', e = .returned v' ∧ Hid (w'.ownsRow w2.heap.size 3 1 v' (rwl s 1 c).length (il (rwl s 1 c))) ∧ Hid (Below W.heap.size W w') ∧ Below w2.heap.size w2 w') := fun W hW => (drow_c s 1 c (by omega) (by omega) (by omega) W).mono fun e w' ⟨v', h1, h2, h3⟩ => ⟨v', h1, base8 h2 hW.size, h3, hW.trans (h3.mono hW.size)⟩
  have r3 : Hid (∀ W, Below w2.heap.size w2 W → Calls Tryd.prog 32 #[.int .i64 (d : Int), .int .i64 (j : Int), .int .i64 (c : Int)] W fun e w' => ∃ v', e = .returned v' ∧ Hid (w'.ownsRow w2.heap.size 3 1 v' (rwl d j c).length (il (rwl d j c))) ∧ Hid (Below W.heap.size W w') ∧ Below w2.heap.size w2 w') := fun W hW => (drow_c d j c (by omega) (by omega) (by omega) W).mono fun e w' ⟨v', h1, h2, h3⟩ => ⟨v', h1, base8 h2 hW.size, h3, hW.trans (h3.mono hW.size)⟩
  clear hd hs hj hc
  go_wp2
  go_region_held3 (fun Z => Z.cell? ⟨g, 1, none⟩ = some (.int .i64 (d : Int)) ∧ Z.cell? ⟨g, 2, none⟩ = some (.int .i64 (s : Int)) ∧ Z.cell? ⟨g, 3, none⟩ = some (.int .i64 (j : Int)) ∧ Z.cell? ⟨g, 4, none⟩ = some (.int .i64 (c : Int))) (go_keep) ((first
    | (go_at_call_of 32 (Value.int .i64 (s : Int)); refine (r2.out _ ?_).mono ?_; (first | assumption | exact Below.drew (by assumption)); rintro e w5 ⟨va, rfl, Oa, Bva, Ba5⟩; obtain ⟨y0, y1, y2, y3, y4, y5, y6⟩ := X3.out.below Ba5)
    | (go_at_call_of 32 (Value.int .i64 (d : Int)); refine (r3.out _ ?_).mono ?_; (first | assumption | exact Below.drew (by assumption)); rintro e w6 ⟨vc, rfl, Oc, Bvc, Bc6⟩; obtain ⟨y0, y1, y2, y3, y4, y5, y6⟩ := X3.out.below Bc6)))
  all_goals (
    clear y0 y1 y2 y3 y4 y5 y6
    have hfin : DtX (rwl s 1 c) (rwl d j c) w (.returned (.tuple #[va, vc, .int .i64 0])) w6 := ⟨va, vc, rfl, base8 (ow8 Oa.out Bvc.out) hB2.out.size, base8 Oc.out hB2.out.size, hB2.out.trans (Bc6.mono hB2.out.size)⟩
    go_wp2
    refine bodyPost_ret (v := .tuple #[va, vc, .int .i64 0]) (by simp [results, Tryd.results20, go_sem]) rfl ?_
    rw [← hP.out]
    exact hfin)
end Go.Proofs.YtmnbpmmilfkjiaaDoor
/-
  The document's Touched (package check's reference): where it answers one list twice, once copied.
-/
namespace Go.Proofs.YtmnbpmmilfkjiaaDoor
open Flo Go.RowKit
theorem il_app (zs ys : List Nat) : il (zs ++ ys) = il zs ++ il ys := by simp [il]
/-- a list of numbers behind another -/
theorem appL {ops : Array Oper} {rest : List Oper} {o : Oper} {a : Act} {Q : Exit → Act → World → Prop} (w : World) (hgd : o.guard = none) (sl x : Operand)
    (ho : o.op = .call { callee := .builtin .append, args := #[sl, x], argTypes := #[43, 43] })
    (B : Nat) (zs ys : List Nat) (b off m cap : Nat) (v : Value) (hs : a.eval sl = v) (hx : a.eval x = .slice (some ⟨b, off, none⟩) m cap) (hm : ys.length = m) (hrow : w.ownsRow B 3 1 v zs.length (il zs))
    (hcell : ∀ i, i < m → w.cell? ⟨b, off + i, none⟩ = some (.int .i64 ((ys.getD i 0 : Nat) : Int))) (hk : (zs.length + m) * 8 ≤ 140737488355328) (hB : B ≤ w.heap.size)
    (h : ∀ v' w', w'.ownsRow B 3 1 v' (zs ++ ys).length (il (zs ++ ys)) → w.grownBy w' v.ownBlock → wpList Tryd.prog ops Q rest (a.put o.dst v') w') : wpList Tryd.prog ops Q (o :: rest) a w := by
  obtain ⟨i0, hi0, hz0, hz1, hz2⟩ := info_parts infoI9
  refine wpList_append_own w hgd sl x 43 ho B 3 i0 (.int .i64 0) 1 8 Tryd.underlying43 hi0 hz0 hz1 hz2 rfl (by decide) v zs.length _ hs hrow ⟨b, off, none⟩ m cap (il ys) hx (by rw [il_len, hm, Nat.mul_one]) ?_ ?_ ?_ ?_ hB ?_
  · intro j u hj
    have h1 : j < m := by have := (List.getElem?_eq_some_iff.1 hj).1; rw [il_len] at this; omega
    rw [il_get ys j (by omega)] at hj
    cases hj
    have e : (⟨b, off, none⟩ : Addr).add j = ⟨b, off + j, none⟩ := by
      unfold Addr.add
      by_cases h0 : j = 0
      · subst h0; simp
      · simp [h0]
    rw [e]
    exact hcell j h1
  · intro u hu
    obtain ⟨z, -, rfl⟩ := List.mem_map.1 hu
    rfl
  · unfold maxLen; omega
  · omega
  · intro v' w1 hown' hgrow _
    refine h v' w1 ?_ hgrow
    rw [il_app, List.length_append, hm]
    exact hown'
set_option maxHeartbeats 2000000 in
set_option maxRecDepth 100000 in
theorem ktd4_c (d s j c n : Nat) (k : Int) (w : World) (hfm : Sp.fm ⟨4, d, s, j, c, n, k⟩ = true) (hd : d ≤ 262143) (_ : s ≤ 262143) (_ : j ≤ 262144) (hc : c ≤ 262144) (hc1 : 1 ≤ c) :
    Calls Tryd.prog 20 #[sv ⟨4, d, s, j, c, n, k⟩] w fun e w' => DtX (rwl d 1 c) (rwl d 1 c) w e w' := by
  obtain ⟨g, hg⟩ : ∃ g, Hid (w.heap.size = g) := ⟨_, (rfl : _ = _)⟩
  obtain ⟨wa, ewa⟩ : ∃ wa, Hid (w.alloc (.cells #[.int .i64 4, .int .i64 d, .int .i64 s, .int .i64 j, .int .i64 c, .int .i64 n, .int .i64 k] 39) = wa) := ⟨_, (rfl : _ = _)⟩
  have Ba : Hid (Below w.heap.size w wa) := by rw [← ewa.out]; exact (Below.refl _ _).alloc (Nat.le_refl _) _
  have X1 : Hid (Bst wa g 4 d s j c n k) := by show Bst _ _ _ _ _ _ _ _ _; rw [← ewa.out, ← hg.out]; exact Bst.new w _ _ _ _ _ _ _
  have hF : Hid (Calls Tryd.prog 24 #[sv ⟨4, d, s, j, c, n, k⟩] wa fun e w' => e = .returned (.int .i64 0) ∧ Below wa.heap.size wa w') := by
    have := dform_c ⟨4, d, s, j, c, n, k⟩ wa
    rw [hfm] at this
    exact this
  have r1 : Hid (∀ W, Calls Tryd.prog 32 #[.int .i64 (d : Int), .int .i64 1, .int .i64 (c : Int)] W fun e w' => ∃ v', e = .returned v' ∧ w'.ownsRow W.heap.size 3 1 v' (rwl d 1 c).length (il (rwl d 1 c)) ∧ Below W.heap.size W w') := fun W => drow_c d 1 c (by omega) (by omega) (by omega) W
  obtain ⟨P, hP⟩ : ∃ P : Ending → World → Prop, Hid ((fun e w' => DtX (rwl d 1 c) (rwl d 1 c) w e w') = P) := ⟨_, (rfl : _ = _)⟩
  rw [hP.out]
  clear hfm hd
  unfold sv sva at *
  go_enter Tryd.func20, Tryd.ntmps20
  go_upto_region 1 with fail
  rw [ewa.out, hg.out]
  obtain ⟨y0, y1, y2, y3, y4, y5, y6⟩ := X1.out
  go_wp2_with fail
  refine hF.out.mono ?_
  rintro e w1 ⟨rfl, B1⟩
  have hB1 : Hid (Below w.heap.size w w1) := Ba.out.trans (B1.mono Ba.out.size)
  have X2 : Hid (Bst w1 g 4 d s j c n k) := X1.out.below B1
  clear y0 y1 y2 y3 y4 y5 y6 B1 hF
  obtain ⟨y0, y1, y2, y3, y4, y5, y6⟩ := X2.out
  go_wp2_with fail
  refine (r1.out w1).mono ?_
  rintro e w2 ⟨vb, rfl, O2, B2⟩
  have hB2 : Hid (Below w.heap.size w w2) := hB1.out.trans (B2.mono hB1.out.size)
  have O2H : Hid (w2.ownsRow w.heap.size 3 1 vb (rwl d 1 c).length (il (rwl d 1 c))) := base8 O2 hB1.out.size
  have X3 : Hid (Bst w2 g 4 d s j c n k) := X2.out.below B2
  clear y0 y1 y2 y3 y4 y5 y6 B2 O2 r1
  obtain ⟨y0, y1, y2, y3, y4, y5, y6⟩ := X3.out
  obtain ⟨ao, cp, rfl, hrd⟩ := RdI.of_own O2H.out
  obtain ⟨bb, oo, rfl, -, hcell⟩ := hrd (rwl_ne hc1)
  have hcH : Hid (∀ i, i < c → w2.cell? ⟨bb, oo + i, none⟩ = some (.int .i64 (((rwl d 1 c).getD i 0 : Nat) : Int))) := by rw [rwl_len] at hcell; exact hcell
  have hl : (rwl d 1 c).length = c := rwl_len d 1 c
  obtain ⟨ys, hys⟩ : ∃ z, Hid (rwl d 1 c = z) := ⟨_, (rfl : _ = _)⟩
  rw [hys.out] at hl hcH hP O2H ⊢
  have hlH : Hid (ys.length = c) := hl
  rw [hl]
  have hcA : Hid (∀ i, i < c → (w2.alloc (.cells #[] 3)).cell? ⟨bb, oo + i, none⟩ = some (.int .i64 ((ys.getD i 0 : Nat) : Int))) := fun i hi => (((Below.refl w2.heap.size w2).alloc (Nat.le_refl _) (.cells #[] 3)).cell (p := ⟨bb, oo + i, none⟩) (cell_lt (hcH.out i hi))).trans (hcH.out i hi)
  have oe : Hid ((w2.alloc (.cells #[] 3)).ownsRow w.heap.size 3 1 (.slice (some ⟨w2.heap.size, 0, none⟩) 0 0) ([] : List Nat).length (il [])) := World.ownsRow_made w2 #[] 0 hB2.out.size (by decide) rfl
  have hlm : (([] : List Nat).length + c) * 8 ≤ 140737488355328 := by simp; omega
  have hB3 : w.heap.size ≤ (w2.alloc (.cells #[] 3)).heap.size := by have := hB2.out.size; simp; omega
  clear hcell hrd hl
  go_wp2_with (first | (at_builtin; refine appL _ rfl _ _ rfl w.heap.size [] ys bb oo c cp _ rfl rfl hlH.out oe.out hcA.out hlm hB3 ?_) | fail)
  intro v' w4 ho hg
  have hB4 := (hB2.out.alloc hB2.out.size (.cells #[] 3)).grown hg hB3 (fun k hk => by cases hk; exact hB2.out.size)
  have hbb : bb < w2.heap.size := (O2H.out.lt bb rfl).2
  have O4 : w4.ownsRow w.heap.size 3 1 (.slice (some ⟨bb, oo, none⟩) ys.length cp) ys.length (il ys) := (O2H.out.alloc (.cells #[] 3)).kept hg (.inr (by simp [Value.ownBlock]; omega))
  rw [hlH.out] at O4
  have hfin : Hid (DtX ys ys w (.returned (.tuple #[v', .slice (some ⟨bb, oo, none⟩) c cp, .int .i64 0])) w4) := ⟨v', _, rfl, ho, by rw [hlH.out]; exact O4, hB4⟩
  clear y0 y1 y2 y3 y4 y5 y6 ho hg hB4 O4
  go_wp2
  refine bodyPost_ret (v := .tuple #[v', .slice (some ⟨bb, oo, none⟩) c cp, .int .i64 0]) (by simp [results, Tryd.results20, go_sem]) rfl ?_
  rw [← hP.out]
  exact hfin.out
set_option maxHeartbeats 2000000 in
set_option maxRecDepth 100000 in
theorem ktd7_c (d s j c n : Nat) (k : Int) (w : World) (hfm : Sp.fm ⟨7, d, s, j, c, n, k⟩ = true) (hd : d ≤ 262143) (_ : s ≤ 262143) (_ : j ≤ 262144) (hc : c ≤ 262144) (hc1 : 1 ≤ c) :
    Calls Tryd.prog 20 #[sv ⟨7, d, s, j, c, n, k⟩] w fun e w' => DtX (rwl d 1 c) (rwl d 1 c) w e w' := by
  obtain ⟨g, hg⟩ : ∃ g, Hid (w.heap.size = g) := ⟨_, (rfl : _ = _)⟩
  obtain ⟨wa, ewa⟩ : ∃ wa, Hid (w.alloc (.cells #[.int .i64 7, .int .i64 d, .int .i64 s, .int .i64 j, .int .i64 c, .int .i64 n, .int .i64 k] 39) = wa) := ⟨_, (rfl : _ = _)⟩
  have Ba : Hid (Below w.heap.size w wa) := by rw [← ewa.out]; exact (Below.refl _ _).alloc (Nat.le_refl _) _
  have X1 : Hid (Bst wa g 7 d s j c n k) := by show Bst _ _ _ _ _ _ _ _ _; rw [← ewa.out, ← hg.out]; exact Bst.new w _ _ _ _ _ _ _
  have hF : Hid (Calls Tryd.prog 24 #[sv ⟨7, d, s, j, c, n, k⟩] wa fun e w' => e = .returned (.int .i64 0) ∧ Below wa.heap.size wa w') := by
    have := dform_c ⟨7, d, s, j, c, n, k⟩ wa
    rw [hfm] at this
    exact this
  have r1 : Hid (∀ W, Calls Tryd.prog 32 #[.int .i64 (d : Int), .int .i64 1, .int .i64 (c : Int)] W fun e w' => ∃ v', e = .returned v' ∧ w'.ownsRow W.heap.size 3 1 v' (rwl d 1 c).length (il (rwl d 1 c)) ∧ Below W.heap.size W w') := fun W => drow_c d 1 c (by omega) (by omega) (by omega) W
  obtain ⟨P, hP⟩ : ∃ P : Ending → World → Prop, Hid ((fun e w' => DtX (rwl d 1 c) (rwl d 1 c) w e w') = P) := ⟨_, (rfl : _ = _)⟩
  rw [hP.out]
  clear hfm hd
  unfold sv sva at *
  go_enter Tryd.func20, Tryd.ntmps20
  go_upto_region 1 with fail
  rw [ewa.out, hg.out]
  obtain ⟨y0, y1, y2, y3, y4, y5, y6⟩ := X1.out
  go_wp2_with fail
  refine hF.out.mono ?_
  rintro e w1 ⟨rfl, B1⟩
  have hB1 : Hid (Below w.heap.size w w1) := Ba.out.trans (B1.mono Ba.out.size)
  have X2 : Hid (Bst w1 g 7 d s j c n k) := X1.out.below B1
  clear y0 y1 y2 y3 y4 y5 y6 B1 hF
  obtain ⟨y0, y1, y2, y3, y4, y5, y6⟩ := X2.out
  go_wp2_with fail
  refine (r1.out w1).mono ?_
  rintro e w2 ⟨vb, rfl, O2, B2⟩
  have hB2 : Hid (Below w.heap.size w w2) := hB1.out.trans (B2.mono hB1.out.size)
  have O2H : Hid (w2.ownsRow w.heap.size 3 1 vb (rwl d 1 c).length (il (rwl d 1 c))) := base8 O2 hB1.out.size
  have X3 : Hid (Bst w2 g 7 d s j c n k) := X2.out.below B2
  clear y0 y1 y2 y3 y4 y5 y6 B2 O2 r1
  obtain ⟨y0, y1, y2, y3, y4, y5, y6⟩ := X3.out
  obtain ⟨ao, cp, rfl, hrd⟩ := RdI.of_own O2H.out
  obtain ⟨bb, oo, rfl, -, hcell⟩ := hrd (rwl_ne hc1)
  have hcH : Hid (∀ i, i < c → w2.cell? ⟨bb, oo + i, none⟩ = some (.int .i64 (((rwl d 1 c).getD i 0 : Nat) : Int))) := by rw [rwl_len] at hcell; exact hcell
  have hl : (rwl d 1 c).length = c := rwl_len d 1 c
  obtain ⟨ys, hys⟩ : ∃ z, Hid (rwl d 1 c = z) := ⟨_, (rfl : _ = _)⟩
  rw [hys.out] at hl hcH hP O2H ⊢
  have hlH : Hid (ys.length = c) := hl
  rw [hl]
  have hcA : Hid (∀ i, i < c → (w2.alloc (.cells #[] 3)).cell? ⟨bb, oo + i, none⟩ = some (.int .i64 ((ys.getD i 0 : Nat) : Int))) := fun i hi => (((Below.refl w2.heap.size w2).alloc (Nat.le_refl _) (.cells #[] 3)).cell (p := ⟨bb, oo + i, none⟩) (cell_lt (hcH.out i hi))).trans (hcH.out i hi)
  have oe : Hid ((w2.alloc (.cells #[] 3)).ownsRow w.heap.size 3 1 (.slice (some ⟨w2.heap.size, 0, none⟩) 0 0) ([] : List Nat).length (il [])) := World.ownsRow_made w2 #[] 0 hB2.out.size (by decide) rfl
  have hlm : (([] : List Nat).length + c) * 8 ≤ 140737488355328 := by simp; omega
  have hB3 : w.heap.size ≤ (w2.alloc (.cells #[] 3)).heap.size := by have := hB2.out.size; simp; omega
  clear hcell hrd hl
  go_wp2_with (first | (at_builtin; refine appL _ rfl _ _ rfl w.heap.size [] ys bb oo c cp _ rfl rfl hlH.out oe.out hcA.out hlm hB3 ?_) | fail)
  intro v' w4 ho hg
  have hB4 := (hB2.out.alloc hB2.out.size (.cells #[] 3)).grown hg hB3 (fun k hk => by cases hk; exact hB2.out.size)
  have hbb : bb < w2.heap.size := (O2H.out.lt bb rfl).2
  have O4 : w4.ownsRow w.heap.size 3 1 (.slice (some ⟨bb, oo, none⟩) ys.length cp) ys.length (il ys) := (O2H.out.alloc (.cells #[] 3)).kept hg (.inr (by simp [Value.ownBlock]; omega))
  rw [hlH.out] at O4
  have hfin : Hid (DtX ys ys w (.returned (.tuple #[v', .slice (some ⟨bb, oo, none⟩) c cp, .int .i64 0])) w4) := ⟨v', _, rfl, ho, by rw [hlH.out]; exact O4, hB4⟩
  clear y0 y1 y2 y3 y4 y5 y6 ho hg hB4 O4
  go_wp2
  refine bodyPost_ret (v := .tuple #[v', .slice (some ⟨bb, oo, none⟩) c cp, .int .i64 0]) (by simp [results, Tryd.results20, go_sem]) rfl ?_
  rw [← hP.out]
  exact hfin.out
set_option maxHeartbeats 2000000 in
set_option maxRecDepth 100000 in
theorem ktd10_c (d s j c n : Nat) (k : Int) (w : World) (hfm : Sp.fm ⟨10, d, s, j, c, n, k⟩ = true) (hd : d ≤ 262143) (_ : s ≤ 262143) (_ : j ≤ 262144) (hc : c ≤ 262144) (hc1 : 1 ≤ c) :
    Calls Tryd.prog 20 #[sv ⟨10, d, s, j, c, n, k⟩] w fun e w' => DtX (rwl d 1 c) (rwl d 1 c) w e w' := by
  obtain ⟨g, hg⟩ : ∃ g, Hid (w.heap.size = g) := ⟨_, (rfl : _ = _)⟩
  obtain ⟨wa, ewa⟩ : ∃ wa, Hid (w.alloc (.cells #[.int .i64 10, .int .i64 d, .int .i64 s, .int .i64 j, .int .i64 c, .int .i64 n, .int .i64 k] 39) = wa) := ⟨_, (rfl : _ = _)⟩
  have Ba : Hid (Below w.heap.size w wa) := by rw [← ewa.out]; exact (Below.refl _ _).alloc (Nat.le_refl _) _
  have X1 : Hid (Bst wa g 10 d s j c n k) := by show Bst _ _ _ _ _ _ _ _ _; rw [← ewa.out, ← hg.out]; exact Bst.new w _ _ _ _ _ _ _
  have hF : Hid (Calls Tryd.prog 24 #[sv ⟨10, d, s, j, c, n, k⟩] wa fun e w' => e = .returned (.int .i64 0) ∧ Below wa.heap.size wa w') := by
    have := dform_c ⟨10, d, s, j, c, n, k⟩ wa
    rw [hfm] at this
    exact this
  have r1 : Hid (∀ W, Calls Tryd.prog 32 #[.int .i64 (d : Int), .int .i64 1, .int .i64 (c : Int)] W fun e w' => ∃ v', e = .returned v' ∧ w'.ownsRow W.heap.size 3 1 v' (rwl d 1 c).length (il (rwl d 1 c)) ∧ Below W.heap.size W w') := fun W => drow_c d 1 c (by omega) (by omega) (by omega) W
  obtain ⟨P, hP⟩ : ∃ P : Ending → World → Prop, Hid ((fun e w' => DtX (rwl d 1 c) (rwl d 1 c) w e w') = P) := ⟨_, (rfl : _ = _)⟩
  rw [hP.out]
  clear hfm hd
  unfold sv sva at *
  go_enter Tryd.func20, Tryd.ntmps20
  go_upto_region 1 with fail
  rw [ewa.out, hg.out]
  obtain ⟨y0, y1, y2, y3, y4, y5, y6⟩ := X1.out
  go_wp2_with fail
  refine hF.out.mono ?_
  rintro e w1 ⟨rfl, B1⟩
  have hB1 : Hid (Below w.heap.size w w1) := Ba.out.trans (B1.mono Ba.out.size)
  have X2 : Hid (Bst w1 g 10 d s j c n k) := X1.out.below B1
  clear y0 y1 y2 y3 y4 y5 y6 B1 hF
  obtain ⟨y0, y1, y2, y3, y4, y5, y6⟩ := X2.out
  go_wp2_with fail
  refine (r1.out w1).mono ?_
  rintro e w2 ⟨vb, rfl, O2, B2⟩
  have hB2 : Hid (Below w.heap.size w w2) := hB1.out.trans (B2.mono hB1.out.size)
  have O2H : Hid (w2.ownsRow w.heap.size 3 1 vb (rwl d 1 c).length (il (rwl d 1 c))) := base8 O2 hB1.out.size
  have X3 : Hid (Bst w2 g 10 d s j c n k) := X2.out.below B2
  clear y0 y1 y2 y3 y4 y5 y6 B2 O2 r1
  obtain ⟨y0, y1, y2, y3, y4, y5, y6⟩ := X3.out
  obtain ⟨ao, cp, rfl, hrd⟩ := RdI.of_own O2H.out
  obtain ⟨bb, oo, rfl, -, hcell⟩ := hrd (rwl_ne hc1)
  have hcH : Hid (∀ i, i < c → w2.cell? ⟨bb, oo + i, none⟩ = some (.int .i64 (((rwl d 1 c).getD i 0 : Nat) : Int))) := by rw [rwl_len] at hcell; exact hcell
  have hl : (rwl d 1 c).length = c := rwl_len d 1 c
  obtain ⟨ys, hys⟩ : ∃ z, Hid (rwl d 1 c = z) := ⟨_, (rfl : _ = _)⟩
  rw [hys.out] at hl hcH hP O2H ⊢
  have hlH : Hid (ys.length = c) := hl
  rw [hl]
  have hcA : Hid (∀ i, i < c → (w2.alloc (.cells #[] 3)).cell? ⟨bb, oo + i, none⟩ = some (.int .i64 ((ys.getD i 0 : Nat) : Int))) := fun i hi => (((Below.refl w2.heap.size w2).alloc (Nat.le_refl _) (.cells #[] 3)).cell (p := ⟨bb, oo + i, none⟩) (cell_lt (hcH.out i hi))).trans (hcH.out i hi)
  have oe : Hid ((w2.alloc (.cells #[] 3)).ownsRow w.heap.size 3 1 (.slice (some ⟨w2.heap.size, 0, none⟩) 0 0) ([] : List Nat).length (il [])) := World.ownsRow_made w2 #[] 0 hB2.out.size (by decide) rfl
  have hlm : (([] : List Nat).length + c) * 8 ≤ 140737488355328 := by simp; omega
  have hB3 : w.heap.size ≤ (w2.alloc (.cells #[] 3)).heap.size := by have := hB2.out.size; simp; omega
  clear hcell hrd hl
  go_wp2_with (first | (at_builtin; refine appL _ rfl _ _ rfl w.heap.size [] ys bb oo c cp _ rfl rfl hlH.out oe.out hcA.out hlm hB3 ?_) | fail)
  intro v' w4 ho hg
  have hB4 := (hB2.out.alloc hB2.out.size (.cells #[] 3)).grown hg hB3 (fun k hk => by cases hk; exact hB2.out.size)
  have hbb : bb < w2.heap.size := (O2H.out.lt bb rfl).2
  have O4 : w4.ownsRow w.heap.size 3 1 (.slice (some ⟨bb, oo, none⟩) ys.length cp) ys.length (il ys) := (O2H.out.alloc (.cells #[] 3)).kept hg (.inr (by simp [Value.ownBlock]; omega))
  rw [hlH.out] at O4
  have hfin : Hid (DtX ys ys w (.returned (.tuple #[v', .slice (some ⟨bb, oo, none⟩) c cp, .int .i64 0])) w4) := ⟨v', _, rfl, ho, by rw [hlH.out]; exact O4, hB4⟩
  clear y0 y1 y2 y3 y4 y5 y6 ho hg hB4 O4
  go_wp2
  refine bodyPost_ret (v := .tuple #[v', .slice (some ⟨bb, oo, none⟩) c cp, .int .i64 0]) (by simp [results, Tryd.results20, go_sem]) rfl ?_
  rw [← hP.out]
  exact hfin.out
set_option maxHeartbeats 2000000 in
set_option maxRecDepth 100000 in
theorem ktd11_c (d s j c n : Nat) (k : Int) (w : World) (hfm : Sp.fm ⟨11, d, s, j, c, n, k⟩ = true) (hd : d ≤ 262143) (_ : s ≤ 262143) (_ : j ≤ 262144) (hc : c ≤ 262144) (hc1 : 1 ≤ c) :
    Calls Tryd.prog 20 #[sv ⟨11, d, s, j, c, n, k⟩] w fun e w' => DtX (rwl d 1 c) (rwl d 1 c) w e w' := by
  obtain ⟨g, hg⟩ : ∃ g, Hid (w.heap.size = g) := ⟨_, (rfl : _ = _)⟩
  obtain ⟨wa, ewa⟩ : ∃ wa, Hid (w.alloc (.cells #[.int .i64 11, .int .i64 d, .int .i64 s, .int .i64 j, .int .i64 c, .int .i64 n, .int .i64 k] 39) = wa) := ⟨_, (rfl : _ = _)⟩
  have Ba : Hid (Below w.heap.size w wa) := by rw [← ewa.out]; exact (Below.refl _ _).alloc (Nat.le_refl _) _
  have X1 : Hid (Bst wa g 11 d s j c n k) := by show Bst _ _ _ _ _ _ _ _ _; rw [← ewa.out, ← hg.out]; exact Bst.new w _ _ _ _ _ _ _
  have hF : Hid (Calls Tryd.prog 24 #[sv ⟨11, d, s, j, c, n, k⟩] wa fun e w' => e = .returned (.int .i64 0) ∧ Below wa.heap.size wa w') := by
    have := dform_c ⟨11, d, s, j, c, n, k⟩ wa
    rw [hfm] at this
    exact this
  have r1 : Hid (∀ W, Calls Tryd.prog 32 #[.int .i64 (d : Int), .int .i64 1, .int .i64 (c : Int)] W fun e w' => ∃ v', e = .returned v' ∧ w'.ownsRow W.heap.size 3 1 v' (rwl d 1 c).length (il (rwl d 1 c)) ∧ Below W.heap.size W w') := fun W => drow_c d 1 c (by omega) (by omega) (by omega) W
  obtain ⟨P, hP⟩ : ∃ P : Ending → World → Prop, Hid ((fun e w' => DtX (rwl d 1 c) (rwl d 1 c) w e w') = P) := ⟨_, (rfl : _ = _)⟩
  rw [hP.out]
  clear hfm hd
  unfold sv sva at *
  go_enter Tryd.func20, Tryd.ntmps20
  go_upto_region 1 with fail
  rw [ewa.out, hg.out]
  obtain ⟨y0, y1, y2, y3, y4, y5, y6⟩ := X1.out
  go_wp2_with fail
  refine hF.out.mono ?_
  rintro e w1 ⟨rfl, B1⟩
  have hB1 : Hid (Below w.heap.size w w1) := Ba.out.trans (B1.mono Ba.out.size)
  have X2 : Hid (Bst w1 g 11 d s j c n k) := X1.out.below B1
  clear y0 y1 y2 y3 y4 y5 y6 B1 hF
  obtain ⟨y0, y1, y2, y3, y4, y5, y6⟩ := X2.out
  go_wp2_with fail
  refine (r1.out w1).mono ?_
  rintro e w2 ⟨vb, rfl, O2, B2⟩
  have hB2 : Hid (Below w.heap.size w w2) := hB1.out.trans (B2.mono hB1.out.size)
  have O2H : Hid (w2.ownsRow w.heap.size 3 1 vb (rwl d 1 c).length (il (rwl d 1 c))) := base8 O2 hB1.out.size
  have X3 : Hid (Bst w2 g 11 d s j c n k) := X2.out.below B2
  clear y0 y1 y2 y3 y4 y5 y6 B2 O2 r1
  obtain ⟨y0, y1, y2, y3, y4, y5, y6⟩ := X3.out
  obtain ⟨ao, cp, rfl, hrd⟩ := RdI.of_own O2H.out
  obtain ⟨bb, oo, rfl, -, hcell⟩ := hrd (rwl_ne hc1)
  have hcH : Hid (∀ i, i < c → w2.cell? ⟨bb, oo + i, none⟩ = some (.int .i64 (((rwl d 1 c).getD i 0 : Nat) : Int))) := by rw [rwl_len] at hcell; exact hcell
  have hl : (rwl d 1 c).length = c := rwl_len d 1 c
  obtain ⟨ys, hys⟩ : ∃ z, Hid (rwl d 1 c = z) := ⟨_, (rfl : _ = _)⟩
  rw [hys.out] at hl hcH hP O2H ⊢
  have hlH : Hid (ys.length = c) := hl
  rw [hl]
  have hcA : Hid (∀ i, i < c → (w2.alloc (.cells #[] 3)).cell? ⟨bb, oo + i, none⟩ = some (.int .i64 ((ys.getD i 0 : Nat) : Int))) := fun i hi => (((Below.refl w2.heap.size w2).alloc (Nat.le_refl _) (.cells #[] 3)).cell (p := ⟨bb, oo + i, none⟩) (cell_lt (hcH.out i hi))).trans (hcH.out i hi)
  have oe : Hid ((w2.alloc (.cells #[] 3)).ownsRow w.heap.size 3 1 (.slice (some ⟨w2.heap.size, 0, none⟩) 0 0) ([] : List Nat).length (il [])) := World.ownsRow_made w2 #[] 0 hB2.out.size (by decide) rfl
  have hlm : (([] : List Nat).length + c) * 8 ≤ 140737488355328 := by simp; omega
  have hB3 : w.heap.size ≤ (w2.alloc (.cells #[] 3)).heap.size := by have := hB2.out.size; simp; omega
  clear hcell hrd hl
  go_wp2_with (first | (at_builtin; refine appL _ rfl _ _ rfl w.heap.size [] ys bb oo c cp _ rfl rfl hlH.out oe.out hcA.out hlm hB3 ?_) | fail)
  intro v' w4 ho hg
  have hB4 := (hB2.out.alloc hB2.out.size (.cells #[] 3)).grown hg hB3 (fun k hk => by cases hk; exact hB2.out.size)
  have hbb : bb < w2.heap.size := (O2H.out.lt bb rfl).2
  have O4 : w4.ownsRow w.heap.size 3 1 (.slice (some ⟨bb, oo, none⟩) ys.length cp) ys.length (il ys) := (O2H.out.alloc (.cells #[] 3)).kept hg (.inr (by simp [Value.ownBlock]; omega))
  rw [hlH.out] at O4
  have hfin : Hid (DtX ys ys w (.returned (.tuple #[v', .slice (some ⟨bb, oo, none⟩) c cp, .int .i64 0])) w4) := ⟨v', _, rfl, ho, by rw [hlH.out]; exact O4, hB4⟩
  clear y0 y1 y2 y3 y4 y5 y6 ho hg hB4 O4
  go_wp2
  refine bodyPost_ret (v := .tuple #[v', .slice (some ⟨bb, oo, none⟩) c cp, .int .i64 0]) (by simp [results, Tryd.results20, go_sem]) rfl ?_
  rw [← hP.out]
  exact hfin.out
end Go.Proofs.YtmnbpmmilfkjiaaDoor
/-
  The document's Touched (package check's reference): the butterflies.
-/
namespace Go.Proofs.YtmnbpmmilfkjiaaDoor
open Flo Go.RowKit
def fll (d j c q : Nat) : List Nat := (List.range q).flatMap fun t => rwl (d + t * j) 1 c
theorem fll_succ (d j c q : Nat) : fll d j c (q + 1) = fll d j c q ++ rwl (d + q * j) 1 c := by simp [fll, List.range_succ]
theorem fll_len (d j c : Nat) : ∀ q, (fll d j c q).length = q * c
  | 0 => by simp [fll]
  | q + 1 => by rw [fll_succ, List.length_append, fll_len d j c q, rwl_len, Nat.succ_mul]
set_option maxHeartbeats 2000000 in
set_option maxRecDepth 100000 in
theorem ktd5_c (d s j c n : Nat) (k : Int) (w : World) (hfm : Sp.fm ⟨5, d, s, j, c, n, k⟩ = true) (hd : d ≤ 262143) (_ : s ≤ 262143) (hj : j ≤ 262144) (hc : c ≤ 262144) (hc1 : 1 ≤ c) (hn1 : 1 ≤ n) (hn : n ≤ 5) :
    Calls Tryd.prog 20 #[sv ⟨5, d, s, j, c, n, k⟩] w fun e w' => DtX (fll d j c n) (fll d j c n) w e w' := by
  obtain ⟨g, hg⟩ : ∃ g, Hid (w.heap.size = g) := ⟨_, (rfl : _ = _)⟩
  obtain ⟨wa, ewa⟩ : ∃ wa, Hid (w.alloc (.cells #[.int .i64 5, .int .i64 d, .int .i64 s, .int .i64 j, .int .i64 c, .int .i64 n, .int .i64 k] 39) = wa) := ⟨_, (rfl : _ = _)⟩
  have Ba : Hid (Below w.heap.size w wa) := by rw [← ewa.out]; exact (Below.refl _ _).alloc (Nat.le_refl _) _
  have X1 : Hid (Bst wa g 5 d s j c n k) := by show Bst _ _ _ _ _ _ _ _ _; rw [← ewa.out, ← hg.out]; exact Bst.new w _ _ _ _ _ _ _
  have hF : Hid (Calls Tryd.prog 24 #[sv ⟨5, d, s, j, c, n, k⟩] wa fun e w' => e = .returned (.int .i64 0) ∧ Below wa.heap.size wa w') := by
    have := dform_c ⟨5, d, s, j, c, n, k⟩ wa
    rw [hfm] at this
    exact this
  have r1 : Hid (∀ W, Calls Tryd.prog 32 #[.int .i64 (d : Int), .int .i64 1, .int .i64 (c : Int)] W fun e w' => ∃ v', e = .returned v' ∧ w'.ownsRow W.heap.size 3 1 v' (rwl d 1 c).length (il (rwl d 1 c)) ∧ Below W.heap.size W w') := fun W => drow_c d 1 c (by omega) (by omega) (by omega) W
  have r2 : Hid (∀ q : Nat, q < n → ∀ W, Calls Tryd.prog 32 #[.int .i64 ((d + q * j : Nat) : Int), .int .i64 1, .int .i64 (c : Int)] W fun e w' => ∃ v', e = .returned v' ∧ w'.ownsRow W.heap.size 3 1 v' (rwl (d + q * j) 1 c).length (il (rwl (d + q * j) 1 c)) ∧ Below W.heap.size W w') := fun q hq W => by
    have h1 : q * j ≤ 5 * 262144 := Nat.mul_le_mul (by omega) hj
    exact drow_c (d + q * j) 1 c (by omega) (by omega) (by omega) W
  have hw : Hid (∀ q : Nat, q < n → wrap64 ((d : Int) + (q : Int) * (j : Int)) = (d : Int) + (q : Int) * (j : Int) ∧ wrap64 ((q : Int) * (j : Int)) = (q : Int) * (j : Int)) := fun q hq => by
    have h1 : q * j ≤ 5 * 262144 := Nat.mul_le_mul (by omega) hj
    have h2 : (q : Int) * (j : Int) = ((q * j : Nat) : Int) := by push_cast; rfl
    rw [h2]
    generalize q * j = z at h1
    unfold wrap64
    omega
  obtain ⟨P, hP⟩ : ∃ P : Ending → World → Prop, Hid ((fun e w' => DtX (fll d j c n) (fll d j c n) w e w') = P) := ⟨_, (rfl : _ = _)⟩
  rw [hP.out]
  clear hfm hd hj
  unfold sv sva at *
  go_enter Tryd.func20, Tryd.ntmps20
  go_upto_region 1 with fail
  rw [ewa.out, hg.out]
  obtain ⟨y0, y1, y2, y3, y4, y5, y6⟩ := X1.out
  go_wp2_with fail
  refine hF.out.mono ?_
  rintro e w1 ⟨rfl, B1⟩
  have hB1 : Hid (Below w.heap.size w w1) := Ba.out.trans (B1.mono Ba.out.size)
  have X2 : Hid (Bst w1 g 5 d s j c n k) := X1.out.below B1
  clear y0 y1 y2 y3 y4 y5 y6 B1 hF
  obtain ⟨y0, y1, y2, y3, y4, y5, y6⟩ := X2.out
  go_wp2_with fail
  refine (r1.out w1).mono ?_
  rintro e w2 ⟨vb, rfl, O2, B2⟩
  have hB2 : Hid (Below w.heap.size w w2) := hB1.out.trans (B2.mono hB1.out.size)
  have O2H : Hid (w2.ownsRow w.heap.size 3 1 vb (rwl d 1 c).length (il (rwl d 1 c))) := base8 O2 hB1.out.size
  have X3 : Hid (Bst w2 g 5 d s j c n k) := X2.out.below B2
  clear y0 y1 y2 y3 y4 y5 y6 B2 O2 r1
  obtain ⟨y0, y1, y2, y3, y4, y5, y6⟩ := X3.out
  obtain ⟨B, hB⟩ : ∃ z, Hid (w2.heap.size = z) := ⟨_, (rfl : _ = _)⟩
  have hwB : Hid (w.heap.size ≤ B) := by show _ ≤ _; rw [← hB.out]; exact hB2.out.size
  have oe : Hid (∀ W : World, B ≤ W.heap.size → (W.alloc (.cells #[] 3)).ownsRow B 3 1 (.slice (some ⟨W.heap.size, 0, none⟩) 0 0) ([] : List Nat).length (il [])) := fun W hW => World.ownsRow_made W #[] 0 hW (by decide) rfl
  obtain ⟨wb, ewb⟩ : ∃ z, Hid (w2.alloc (.cells #[] 3) = z) := ⟨_, (rfl : _ = _)⟩
  have Bb : Hid (Below B w2 wb) := by rw [← ewb.out]; exact (Below.refl _ _).alloc (Nat.le_of_eq hB.out.symm) _
  have ob : Hid (wb.ownsRow B 3 1 (.slice (some ⟨w2.heap.size, 0, none⟩) 0 0) ([] : List Nat).length (il [])) := by rw [← ewb.out]; exact oe.out w2 (Nat.le_of_eq hB.out.symm)
  have hcc : Hid (1 ≤ c ∧ c ≤ 262144 ∧ 1 ≤ n ∧ n ≤ 5) := ⟨hc1, hc, hn1, hn⟩
  have hXX : Hid (∀ W, Below B w2 W → Bst W g 5 d s j c n k) := fun W hW => X3.out.below (hB.out ▸ hW)
  clear hc hc1 hn1 hn
  go_wp2
  clear y0 y1 y2 y3 y4 y5 y6
  rw [ewb.out]
  go_loopw [7, 8] (fun a i wr => ∃ q : Nat, q ≤ n ∧ i = .int .i64 q ∧ Hid (Below B w2 wr) ∧ Hid (wr.ownsRow B 3 1 a (fll d j c q).length (il (fll d j c q)))) (fun _ i _ => n - (intOf i).toNat)
  case atStart => exact ⟨0, Nat.zero_le _, rfl, Bb.out, ob.out⟩
  case round =>
    obtain ⟨q, hq, rfl, Bk, hown⟩ := hrel
    have hsz : Hid (B ≤ wr.heap.size) := by have := Bk.out.size; have := hB.out; show _ ≤ _; omega
    obtain ⟨y0, y1, y2, y3, y4, y5, y6⟩ := hXX.out wr Bk.out
    by_cases hlt : q < n
    · have hlt' : (q : Int) < (n : Int) := by omega
      obtain ⟨e1, e2⟩ := hw.out q hlt
      have hr := r2.out q hlt wr
      rw [show (((d + q * j : Nat)) : Int) = (d : Int) + (q : Int) * (j : Int) by push_cast; rfl] at hr
      have hrH : Hid (Calls Tryd.prog 32 #[.int .i64 ((d : Int) + (q : Int) * (j : Int)), .int .i64 1, .int .i64 (c : Int)] wr fun e w' => ∃ v', e = .returned v' ∧ w'.ownsRow wr.heap.size 3 1 v' (rwl (d + q * j) 1 c).length (il (rwl (d + q * j) 1 c)) ∧ Below wr.heap.size wr w') := hr
      clear hr
      go_wp2_with fail
      refine hrH.out.mono ?_
      rintro e w4 ⟨va, rfl, O4, B4⟩
      have hB4 : Hid (Below B w2 w4) := Bk.out.trans (B4.mono hsz.out)
      have own4 : Hid (w4.ownsRow B 3 1 u7 (fll d j c q).length (il (fll d j c q))) := ow8 hown.out B4
      have hs4 : B ≤ w4.heap.size := Nat.le_trans hsz.out B4.size
      obtain ⟨ao, cp, rfl, hrd⟩ := RdI.of_own O4
      obtain ⟨bb, oo, rfl, -, hcell⟩ := hrd (rwl_ne hcc.out.1)
      have hcH : Hid (∀ i, i < c → w4.cell? ⟨bb, oo + i, none⟩ = some (.int .i64 (((rwl (d + q * j) 1 c).getD i 0 : Nat) : Int))) := by rw [rwl_len] at hcell; exact hcell
      have hl : (rwl (d + q * j) 1 c).length = c := rwl_len _ 1 c
      have hfs : Hid (fll d j c (q + 1) = fll d j c q ++ rwl (d + q * j) 1 c) := fll_succ d j c q
      obtain ⟨ys, hys⟩ : ∃ z, Hid (rwl (d + q * j) 1 c = z) := ⟨_, (rfl : _ = _)⟩
      rw [hys.out] at hl hcH hfs ⊢
      have hlH : Hid (ys.length = c) := hl
      rw [hl]
      have hlm : Hid (((fll d j c q).length + c) * 8 ≤ 140737488355328) := by
        show _ ≤ _
        have h1 : q * c ≤ 5 * 262144 := Nat.mul_le_mul (by have := hcc.out; omega) (by have := hcc.out; omega)
        rw [fll_len]
        have := hcc.out
        omega
      clear y0 y1 y2 y3 y4 y5 y6 B4 O4 hrH hown hrd hcell hl e1 e2
      go_wp2_with (first | (at_builtin; refine appL _ rfl _ _ rfl B (fll d j c q) ys bb oo c cp _ rfl rfl hlH.out own4.out hcH.out hlm.out hs4 ?_) | fail)
      intro v' w5 ho hg5
      have hB5 : Hid (Below B w2 w5) := hB4.out.grown hg5 hs4 (fun k' hk' => (own4.out.lt k' hk').1)
      have ho5 : Hid (w5.ownsRow B 3 1 v' (fll d j c (q + 1)).length (il (fll d j c (q + 1)))) := by show World.ownsRow _ _ _ _ _ _ _; rw [hfs.out, List.length_append]; exact ho
      clear ho hg5
      have hnb : n ≤ 5 := hcc.out.2.2.2
      go_wp2
      go_roundw
      case rel => exact ⟨q + 1, by omega, by go_num, hB5, ho5⟩
      case measure => simp [intOf]; omega
    · have hlt' : decide ((q : Int) < (n : Int)) = false := decide_eq_false (by omega)
      obtain rfl : q = n := by omega
      obtain ⟨ys, hys⟩ : ∃ z, Hid (fll d j c q = z) := ⟨_, (rfl : _ = _)⟩
      have hnz : ys ≠ [] := fun e => by
        have h1 := fll_len d j c q
        rw [hys.out, e] at h1
        have h2 : 1 * 1 ≤ q * c := Nat.mul_le_mul hcc.out.2.2.1 hcc.out.1
        simp at h1
        omega
      obtain ⟨L, hL⟩ : ∃ z, Hid (ys.length = z) := ⟨_, (rfl : _ = _)⟩
      have hLb : L ≤ 1310720 := by
        rw [← hL.out, ← hys.out, fll_len]
        exact Nat.mul_le_mul hcc.out.2.2.2 hcc.out.2.1
      rw [hys.out] at hown hP
      obtain ⟨ao, cp, rfl, hrd⟩ := RdI.of_own hown.out
      obtain ⟨bb, oo, rfl, -, hcell⟩ := hrd hnz
      rw [hL.out] at hcell ⊢
      have hcA : Hid (∀ i, i < L → (wr.alloc (.cells #[] 3)).cell? ⟨bb, oo + i, none⟩ = some (.int .i64 ((ys.getD i 0 : Nat) : Int))) := fun i hi => (((Below.refl wr.heap.size wr).alloc (Nat.le_refl _) (.cells #[] 3)).cell (p := ⟨bb, oo + i, none⟩) (cell_lt (hcell i hi))).trans (hcell i hi)
      have oe2 : Hid ((wr.alloc (.cells #[] 3)).ownsRow B 3 1 (.slice (some ⟨wr.heap.size, 0, none⟩) 0 0) ([] : List Nat).length (il [])) := oe.out wr hsz.out
      have hlm : (([] : List Nat).length + L) * 8 ≤ 140737488355328 := by simp; omega
      have hB3 : B ≤ (wr.alloc (.cells #[] 3)).heap.size := by have := hsz.out; simp; omega
      clear hcell hrd
      go_wp2_with (first | (at_builtin; refine appL _ rfl _ _ rfl B [] ys bb oo L cp _ rfl rfl hL.out oe2.out hcA.out hlm hB3 ?_) | fail)
      intro v' w4 ho hg4
      have hB4 := (Bk.out.alloc hsz.out (.cells #[] 3)).grown hg4 hB3 (fun k hk => by cases hk; exact hsz.out)
      have hbb : bb < wr.heap.size := (hown.out.lt bb rfl).2
      have O4 : w4.ownsRow B 3 1 (.slice (some ⟨bb, oo, none⟩) ys.length cp) ys.length (il ys) := (hown.out.alloc (.cells #[] 3)).kept hg4 (.inr (by simp [Value.ownBlock]; omega))
      rw [hL.out] at O4
      have hfin : Hid (DtX ys ys w (.returned (.tuple #[.slice (some ⟨bb, oo, none⟩) L cp, v', .int .i64 0])) w4) := ⟨_, v', rfl, by rw [hL.out]; exact base8 O4 hwB.out, base8 ho hwB.out, hB2.out.trans (hB4.mono hwB.out)⟩
      clear y0 y1 y2 y3 y4 y5 y6 ho hg4 hB4 O4
      go_wp2
      refine bodyPost_ret (v := .tuple #[.slice (some ⟨bb, oo, none⟩) L cp, v', .int .i64 0]) (by simp [results, Tryd.results20, go_sem]) rfl ?_
      rw [← hP.out]
      exact hfin.out
end Go.Proofs.YtmnbpmmilfkjiaaDoor
/-
  The document's Touched (package check's reference), of any step: it answers the program's lists.
-/
namespace Go.Proofs.YtmnbpmmilfkjiaaDoor
open Flo Go.RowKit
theorem rwl_ss {A J c : Nat} (h : 1 ≤ J) : Kc.SS (rwl A J c) := by
  unfold Kc.SS rwl
  rw [List.pairwise_map]
  refine List.pairwise_lt_range.imp ?_
  intro a b hab
  have := Nat.mul_lt_mul_of_pos_right hab (show 0 < J by omega)
  omega
theorem flat1 (A J c : Nat) : Kc.flat [⟨A, J, c⟩] = rwl A J c := by simp [Kc.flat, rwl, Kc.Rw.at]
theorem cl_rwl {A J c : Nat} (h : 1 ≤ J) : Kc.cl (rwl A J c) = rwl A J c := Kc.ss_uniq (Kc.cl_ss _) (rwl_ss h) (Kc.cl_mem _)
theorem fll_lt {d j c : Nat} (h : c ≤ j) : ∀ q, ∀ x ∈ fll d j c q, x < d + q * j
  | 0 => by simp [fll]
  | q + 1 => by
    intro x hx
    rw [fll_succ, List.mem_append] at hx
    rw [Nat.succ_mul]
    rcases hx with h1 | h1
    · have := fll_lt h q x h1; omega
    · simp only [rwl, List.mem_map, List.mem_range] at h1
      obtain ⟨i, hi, rfl⟩ := h1
      omega
theorem fll_ss {d j c : Nat} (h : c ≤ j) : ∀ q, Kc.SS (fll d j c q)
  | 0 => by simp [fll, Kc.SS]
  | q + 1 => by
    rw [fll_succ]
    unfold Kc.SS
    rw [List.pairwise_append]
    refine ⟨fll_ss h q, rwl_ss (by omega), fun a ha b hb => ?_⟩
    have := fll_lt h q a ha
    simp only [rwl, List.mem_map, List.mem_range] at hb
    obtain ⟨i, hi, rfl⟩ := hb
    omega
theorem flat_flr (d j c n : Nat) : Kc.flat (Kc.flr d j c n) = fll d j c n := by
  unfold Kc.flat Kc.flr fll
  rw [List.flatMap_map]
  rfl
theorem cl_fll {d j c n : Nat} (h : c ≤ j) : Kc.cl (fll d j c n) = fll d j c n := Kc.ss_uniq (Kc.cl_ss _) (fll_ss h n) (Kc.cl_mem _)
theorem cl_both {d s c : Nat} {x : List Nat} (h : Mg (rwl d 1 c) (rwl s 1 c) (rwl d 1 c).length (rwl s 1 c).length x) : Kc.cl (Kc.flat [⟨d, 1, c⟩, ⟨s, 1, c⟩]) = x := by
  refine Kc.ss_uniq (Kc.cl_ss _) h.ss fun z => ?_
  rw [Kc.cl_mem, h.fin z]
  have e : Kc.flat [⟨d, 1, c⟩, ⟨s, 1, c⟩] = rwl d 1 c ++ rwl s 1 c := by
    simp only [Kc.flat, List.flatMap_cons, List.flatMap_nil, List.append_nil]
    rfl
  rw [e, List.mem_append]
theorem cl_nil : Kc.cl (Kc.flat []) = [] := Kc.ss_uniq (Kc.cl_ss _) List.Pairwise.nil (fun x => by rw [Kc.cl_mem]; simp [Kc.flat])
theorem dtouched_t (s : Sp.St) (w : World) (hfm : Sp.fm s = true) :
    Calls Tryd.prog 20 #[sv s] w fun e w' => DtX (rdl s) (wrl s) w e w' := by
  obtain ⟨o, d, a, j, c, n, h1, h2, h3, h4, h5, h6, hFo, hn⟩ := fo_of hfm
  obtain ⟨op, dst, src, jump, count, nn, k⟩ := s
  simp only at h1 h2 h3 h4 h5 h6
  subst h1 h2 h3 h4 h5 h6
  have er : ∀ o : Nat, rdl ⟨o, d, a, j, c, n, k⟩ = Kc.cl (Kc.flat (Kc.tou o d a j c n).rd) := fun o => rfl
  have ew : ∀ o : Nat, wrl ⟨o, d, a, j, c, n, k⟩ = Kc.cl (Kc.flat (Kc.tou o d a j c n).wr) := fun o => rfl
  rw [er, ew]
  have ho : o = 1 ∨ o = 2 ∨ o = 3 ∨ o = 4 ∨ o = 5 ∨ o = 6 ∨ o = 7 ∨ o = 8 ∨ o = 9 ∨ o = 10 ∨ o = 11 := by have := hFo.o1; have := hFo.o2; omega
  have own : Kc.cl (Kc.flat [⟨d, 1, c⟩]) = rwl d 1 c := by rw [flat1, cl_rwl (Nat.le_refl _)]
  rcases ho with rfl | rfl | rfl | rfl | rfl | rfl | rfl | rfl | rfl | rfl | rfl
  · rw [show (Kc.tou 1 d a j c n).rd = [⟨a, j, c⟩] from rfl, show (Kc.tou 1 d a j c n).wr = [⟨d, 1, c⟩] from rfl, own, flat1, cl_rwl (hFo.jj (by omega))]
    exact ktd1_c d a j c n k w hfm hFo.d2 hFo.s2 hFo.j2 hFo.c2
  · rw [show (Kc.tou 2 d a j c n).rd = [⟨a, 1, c⟩] from rfl, show (Kc.tou 2 d a j c n).wr = [⟨d, j, c⟩] from rfl, flat1, flat1, cl_rwl (hFo.jj (by omega)), cl_rwl (Nat.le_refl _)]
    exact ktd2_c d a j c n k w hfm hFo.d2 hFo.s2 hFo.j2 hFo.c2
  · rw [show (Kc.tou 3 d a j c n).rd = [] from rfl, show (Kc.tou 3 d a j c n).wr = [⟨d, 1, c⟩] from rfl, own, cl_nil]
    exact ktd3_c d a j c n k w hfm hFo.d2 hFo.s2 hFo.j2 hFo.c2
  · rw [show (Kc.tou 4 d a j c n).rd = [⟨d, 1, c⟩] from rfl, show (Kc.tou 4 d a j c n).wr = [⟨d, 1, c⟩] from rfl, own]
    exact ktd4_c d a j c n k w hfm hFo.d2 hFo.s2 hFo.j2 hFo.c2 hFo.c1
  · obtain ⟨n1, n2, n3⟩ := hFo.n5 rfl
    rw [show (Kc.tou 5 d a j c n).rd = Kc.flr d j c n from rfl, show (Kc.tou 5 d a j c n).wr = Kc.flr d j c n from rfl, flat_flr, cl_fll n3]
    exact ktd5_c d a j c n k w hfm hFo.d2 hFo.s2 hFo.j2 hFo.c2 hFo.c1 (by omega) n2
  · rw [show (Kc.tou 6 d a j c n).rd = [⟨a, j, n⟩] from rfl, show (Kc.tou 6 d a j c n).wr = [⟨d, 1, c⟩] from rfl, own, flat1, cl_rwl (hFo.jj (by omega))]
    exact ktd6_c d a j c n k w hfm hFo.d2 hFo.s2 hFo.j2 hFo.c2 hn
  · rw [show (Kc.tou 7 d a j c n).rd = [⟨d, 1, c⟩] from rfl, show (Kc.tou 7 d a j c n).wr = [⟨d, 1, c⟩] from rfl, own]
    exact ktd7_c d a j c n k w hfm hFo.d2 hFo.s2 hFo.j2 hFo.c2 hFo.c1
  · rw [show (Kc.tou 8 d a j c n).rd = [] from rfl, show (Kc.tou 8 d a j c n).wr = [⟨d, 1, c⟩] from rfl, own, cl_nil]
    exact ktd8_c d a j c n k w hfm hFo.d2 hFo.s2 hFo.j2 hFo.c2
  · rw [show (Kc.tou 9 d a j c n).rd = [⟨d, 1, c⟩, ⟨a, 1, c⟩] from rfl, show (Kc.tou 9 d a j c n).wr = [⟨d, 1, c⟩] from rfl, own]
    refine (ktd9_c d a j c n k w hfm hFo.d2 hFo.s2 hFo.j2 hFo.c2 hFo.c1).mono ?_
    rintro e w' ⟨x, hx, h⟩
    rw [cl_both hx]
    exact h
  · rw [show (Kc.tou 10 d a j c n).rd = [⟨d, 1, c⟩] from rfl, show (Kc.tou 10 d a j c n).wr = [⟨d, 1, c⟩] from rfl, own]
    exact ktd10_c d a j c n k w hfm hFo.d2 hFo.s2 hFo.j2 hFo.c2 hFo.c1
  · rw [show (Kc.tou 11 d a j c n).rd = [⟨d, 1, c⟩] from rfl, show (Kc.tou 11 d a j c n).wr = [⟨d, 1, c⟩] from rfl, own]
    exact ktd11_c d a j c n k w hfm hFo.d2 hFo.s2 hFo.j2 hFo.c2 hFo.c1
end Go.Proofs.YtmnbpmmilfkjiaaDoor
/-
  The document's Touched (package check's reference), of a step that isn't in form.
-/
namespace Go.Proofs.YtmnbpmmilfkjiaaDoor
open Flo Go.RowKit
set_option maxHeartbeats 2000000 in
theorem dtouched_f (s : Sp.St) (w : World) (hfm : Sp.fm s = false) :
    Calls Tryd.prog 20 #[sv s] w fun e w' => e = .returned (.tuple #[.slice none 0 0, .slice none 0 0, .int .i64 9]) ∧ Below w.heap.size w w' := by
  obtain ⟨g, hg⟩ : ∃ g, Hid (w.heap.size = g) := ⟨_, (rfl : _ = _)⟩
  obtain ⟨wa, ewa⟩ : ∃ wa, Hid (w.alloc (.cells #[.int .i64 s.op, .int .i64 s.dst, .int .i64 s.src, .int .i64 s.jump, .int .i64 s.count, .int .i64 s.n, .int .i64 s.k] 39) = wa) := ⟨_, (rfl : _ = _)⟩
  have Ba : Hid (Below w.heap.size w wa) := by rw [← ewa.out]; exact (Below.refl _ _).alloc (Nat.le_refl _) _
  have X1 : Hid (Bst wa g s.op s.dst s.src s.jump s.count s.n s.k) := by show Bst _ _ _ _ _ _ _ _ _; rw [← ewa.out, ← hg.out]; exact Bst.new w _ _ _ _ _ _ _
  have hF : Hid (Calls Tryd.prog 24 #[sv s] wa fun e w' => e = .returned (.int .i64 9) ∧ Below wa.heap.size wa w') := by
    have := dform_c s wa
    rw [hfm] at this
    exact this
  clear hfm
  unfold sv sva at *
  go_enter Tryd.func20, Tryd.ntmps20
  go_upto_region 1 with fail
  rw [ewa.out, hg.out]
  obtain ⟨y0, y1, y2, y3, y4, y5, y6⟩ := X1.out
  go_wp2_with fail
  refine hF.out.mono ?_
  rintro e w1 ⟨rfl, B1⟩
  have hB1 : Hid (Below w.heap.size w w1) := Ba.out.trans (B1.mono Ba.out.size)
  clear y0 y1 y2 y3 y4 y5 y6 B1 hF
  go_wp2
  refine bodyPost_ret (v := .tuple #[.slice none 0 0, .slice none 0 0, .int .i64 9]) (by simp [results, Tryd.results20, go_sem]) rfl ?_
  exact ⟨rfl, hB1.out⟩
end Go.Proofs.YtmnbpmmilfkjiaaDoor
/-
  Touched of any step, the program's and the document's, in one form for steps in form and others.
-/
namespace Go.Proofs.YtmnbpmmilfkjiaaDoor
open Flo Go.RowKit
def lx (s : Sp.St) : List Nat := bif Sp.fm s then rdl s else []
def ly (s : Sp.St) : List Nat := bif Sp.fm s then wrl s else []
theorem kt_c (s : Sp.St) (al : List Addr) (w : World) (hO : Ops w) (he : Pe w al) :
    Calls Tryd.prog 19 #[sv s] w fun e w' => ∃ va vb, e = .returned (.tuple #[va, vb, fev al (Sp.fm s)]) ∧ TwoL w' w.heap.size va (lx s) vb (ly s) ∧ Below w.heap.size w w' := by
  refine (ktouched_c s al w hO he).mono ?_
  rintro e w' ⟨hB, ⟨hf, rfl⟩ | ⟨hf, va, vb, rfl, hT⟩⟩
  · refine ⟨.slice none 0 0, .slice none 0 0, ?_, ?_, hB⟩
    · rw [hf]; rfl
    · unfold lx ly; rw [hf]
      exact ⟨ow_none, ow_none, fun b h => by cases h⟩
  · refine ⟨va, vb, ?_, ?_, hB⟩
    · rw [hf]; rfl
    · unfold lx ly; rw [hf]
      exact hT
theorem dt_c (s : Sp.St) (w : World) :
    Calls Tryd.prog 20 #[sv s] w fun e w' => ∃ va vb, e = .returned (.tuple #[va, vb, .int .i64 (fnn (Sp.fm s))]) ∧ w'.ownsRow w.heap.size 3 1 va (lx s).length (il (lx s)) ∧ w'.ownsRow w.heap.size 3 1 vb (ly s).length (il (ly s)) ∧ Below w.heap.size w w' := by
  cases hf : Sp.fm s with
  | false =>
    refine (dtouched_f s w hf).mono ?_
    rintro e w' ⟨rfl, hB⟩
    refine ⟨_, _, rfl, ?_, ?_, hB⟩
    · unfold lx; rw [hf]; exact ow_none
    · unfold ly; rw [hf]; exact ow_none
  | true =>
    refine (dtouched_t s w hf).mono ?_
    rintro e w' ⟨va, vb, rfl, h1, h2, hB⟩
    refine ⟨va, vb, rfl, ?_, ?_, hB⟩
    · unfold lx; rw [hf]; exact h1
    · unfold ly; rw [hf]; exact h2
theorem lx_len (s : Sp.St) : (lx s).length ≤ 16777216 ∧ (ly s).length ≤ 16777216 := by
  unfold lx ly
  cases hf : Sp.fm s with
  | false => simp
  | true =>
    obtain ⟨o, d, a, j, c, n, h1, h2, h3, h4, h5, h6, hFo, hn⟩ := fo_of hf
    obtain ⟨hr, hv⟩ := rok_of hFo
    obtain ⟨hl1, hl2⟩ := len_tou hFo
    have ht : Kc.touS s = Kc.tou o d a j c n := by unfold Kc.touS; rw [h1, h2, h3, h4, h5, h6]; rfl
    unfold rdl wrl
    simp only [cond_true]
    rw [ht]
    have hle : ∀ zs : List Nat, (Kc.cl zs).length ≤ zs.length := fun zs => by
      rw [Kc.cl_len]
      exact Nat.le_trans (by unfold Lib.compact Lib.compactUpTo; rw [List.length_map]; exact Nat.le_trans (List.length_filter_le _ _) (by simp)) (Nat.le_of_eq (Kc.srt_len zs))
    exact ⟨Nat.le_trans (hle _) (flat_le _ hr hl1), Nat.le_trans (hle _) (flat_le _ hv hl2)⟩
end Go.Proofs.YtmnbpmmilfkjiaaDoor
/-
  The statements of layer 18: lives; errors' numbers.
-/
namespace Go.Proofs.YtmnbpmmilfkjiaaDoor
open Flo Go.RowKit
/-- the number of an error that is nil or the one of programs -/
theorem num_fe8 (al : List Addr) (b : Bool) (w : World) (he : Errs w al) : Calls Tryd.prog 13 #[fev al b] w fun e w' => e = .returned (.int .i64 (fnn b)) ∧ Below w.heap.size w w' := by
  cases b with
  | true =>
    refine (num_nil w).mono ?_
    rintro e w' ⟨rfl, rfl⟩
    exact ⟨rfl, Below.refl _ _⟩
  | false => exact num_err al 8 (by decide) w he
def l18a : Sp.St := ⟨1, 2, 0, 1, 2, 0, 0⟩
def l18b : Sp.St := ⟨1, 0, 1, 1, 2, 0, 0⟩
def l18p : Sp.Pg := ⟨2, 4, 0, 2, [l18a, l18b]⟩
def l18q : Sp.Pg := ⟨2, 4, 0, 2, [l18a]⟩
theorem l18_fm : Sp.fm l18a = true := by decide +kernel
theorem l18_rd : rdl l18a = [0, 1] := Kc.ss_uniq (Kc.cl_ss _) (by unfold Kc.SS; simp) fun x => by unfold rdl; rw [Kc.cl_mem, show Kc.flat (Kc.touS l18a).rd = [0, 1] by decide +kernel]
theorem l18_wr : wrl l18a = [2, 3] := Kc.ss_uniq (Kc.cl_ss _) (by unfold Kc.SS; simp) fun x => by unfold wrl; rw [Kc.cl_mem, show Kc.flat (Kc.touS l18a).wr = [2, 3] by decide +kernel]
theorem l18_flt : Kc.flt l18p.cells 0 0 l18p.steps = 1 := by decide +kernel
theorem l18_chk : Kc.chk l18p = false := by decide +kernel
theorem l18_chq : Kc.chk l18q = true := by decide +kernel
theorem l18_sum : Kc.sumc l18q.steps = 2 := by decide +kernel
set_option maxHeartbeats 4000000 in
set_option maxRecDepth 100000 in
theorem lives18_c (al : List Addr) (w : World) (hE : Errs w al) (hO : Ops w) (he : Pe w al) :
    Calls Tryd.prog 8 #[] w fun e w' => e = .returned (.bool true) ∧ Below w.heap.size w w' := by
  obtain ⟨g0, hg0⟩ : ∃ b, Hid (w.heap.size = b) := ⟨_, (rfl : _ = _)⟩
  obtain ⟨w1, ew1⟩ : ∃ wa, Hid ((w.alloc (.cells #[.int .i64 1, .int .i64 2, .int .i64 0, .int .i64 1, .int .i64 2, .int .i64 0, .int .i64 0, .int .i64 1, .int .i64 0, .int .i64 1, .int .i64 1, .int .i64 2, .int .i64 0, .int .i64 0] 39)).alloc (.cells #[.int .i64 2, .int .i64 4, .int .i64 0, .int .i64 2, .slice (some ⟨g0, 0, none⟩) 2 2] 24) = wa) := ⟨_, (rfl : _ = _)⟩
  have B1 : Hid (Below w.heap.size w w1) := by rw [← ew1.out]; exact ((Below.refl _ _).alloc (Nat.le_refl _) _).alloc (by simp) _
  have A1 : Hid (SAt w1 g0 0 l18a) := by show SAt _ _ _ _; rw [← ew1.out, ← hg0.out]; constructor <;> simp [go_sem, l18a]
  have A2 : Hid (SAt w1 g0 7 l18b) := by show SAt _ _ _ _; rw [← ew1.out, ← hg0.out]; constructor <;> simp [go_sem, l18b]
  have S1 : Hid (Ss w1 (some ⟨g0, 0, none⟩) l18p.steps) := fun i s hi => by
    match i, hi with
    | 0, hi => cases hi; exact ⟨g0, 0, rfl, A1.out⟩
    | 1, hi => cases hi; exact ⟨g0, 0, rfl, A2.out⟩
    | n + 2, hi => simp [l18p] at hi
  have S2 : Hid (Ss w1 (some ⟨g0, 0, none⟩) l18q.steps) := fun i s hi => by
    match i, hi with
    | 0, hi => cases hi; exact ⟨g0, 0, rfl, A1.out⟩
    | n + 1, hi => simp [l18q] at hi
  have X1 : Hid (Bpg w1 (g0 + 1) l18p (.slice (some ⟨g0, 0, none⟩) 2 2)) := by show Bpg _ _ _ _; rw [← ew1.out, ← hg0.out]; constructor <;> simp [go_sem, l18p]
  have F1 : Hid (w1.frozen? ⟨g0 + 1, 4, none⟩ = false) := by show _ = _; rw [← ew1.out, ← hg0.out]; simp [go_sem]
  have e1 : Hid (Pe w1 al) := he.below B1.out
  have o1 : Hid (Ops w1) := hO.below (B1.out.mono (Nat.le_refl _))
  have E1 : Hid (Errs w1 al) := hE.below B1.out
  have htd : Hid (∀ W, Below w1.heap.size w1 W → Calls Tryd.prog 19 #[.agg #[.int .i64 1, .int .i64 2, .int .i64 0, .int .i64 1, .int .i64 2, .int .i64 0, .int .i64 0]] W fun e w' => TdE l18a al W e w') := fun W hW => ktouched_c l18a al W (o1.out.below hW) (e1.out.below hW)
  have hfl : Hid (∀ W, Below w1.heap.size w1 W → Calls Tryd.prog 16 #[.agg #[.int .i64 2, .int .i64 4, .int .i64 0, .int .i64 2, .slice (some ⟨g0, 0, none⟩) 2 2]] W fun e w' => e = .returned (.int .i64 1) ∧ Below W.heap.size W w') := fun W hW => by
    have := kfault_c l18p (some ⟨g0, 0, none⟩) 2 2 al W (S1.out.below hW) rfl (by decide) (o1.out.below hW) (e1.out.below hW)
    rw [l18_flt] at this
    exact this
  have hck : Hid (∀ W, Below w1.heap.size w1 W → Calls Tryd.prog 14 #[.agg #[.int .i64 2, .int .i64 4, .int .i64 0, .int .i64 2, .slice (some ⟨g0, 0, none⟩) 2 2]] W fun e w' => e = .returned (fev al false) ∧ Below W.heap.size W w') := fun W hW => by
    have := kcheck_c l18p (some ⟨g0, 0, none⟩) 2 2 al W (S1.out.below hW) rfl (by decide) (o1.out.below hW) (e1.out.below hW)
    rw [l18_chk] at this
    exact this
  have hnu : Hid (∀ W, Below w1.heap.size w1 W → Calls Tryd.prog 13 #[fev al false] W fun e w' => e = .returned (.int .i64 9) ∧ Below W.heap.size W w') := fun W hW => num_fe8 al false W (E1.out.below hW)
  have hac : Hid (∀ W, Ss W (some ⟨g0, 0, none⟩) l18q.steps → Ops W → Pe W al → Calls Tryd.prog 11 #[.agg #[.int .i64 2, .int .i64 4, .int .i64 0, .int .i64 2, .slice (some ⟨g0, 0, none⟩) 1 2]] W fun e w' => e = .returned (.tuple #[.int .i64 2, .nilIface]) ∧ Below W.heap.size W w') := fun W h1 h2 h3 => by
    have := kacts_c l18q (some ⟨g0, 0, none⟩) 1 2 al W h1 rfl (by decide) h2 h3
    rw [l18_chq, l18_sum] at this
    exact this
  have hcq : Hid (∀ W, Ss W (some ⟨g0, 0, none⟩) l18q.steps → Ops W → Pe W al → Calls Tryd.prog 14 #[.agg #[.int .i64 2, .int .i64 4, .int .i64 0, .int .i64 2, .slice (some ⟨g0, 0, none⟩) 1 2]] W fun e w' => e = .returned .nilIface ∧ Below W.heap.size W w') := fun W h1 h2 h3 => by
    have := kcheck_c l18q (some ⟨g0, 0, none⟩) 1 2 al W h1 rfl (by decide) h2 h3
    rw [l18_chq] at this
    exact this
  have e0 : Hid (Pe w al) := he
  have o0 : Hid (Ops w) := hO
  clear hE hO he
  go_enter Tryd.func8, Tryd.ntmps8
  go_upto_region 2 with fail
  rw [hg0.out, ew1.out]
  obtain ⟨x0, x1, x2, x3, x4⟩ := X1.out
  obtain ⟨y0, y1, y2, y3, y4, y5, y6⟩ := A1.out
  unfold l18a at y0 y1 y2 y3 y4 y5 y6
  unfold l18p at x0 x1 x2 x3
  go_wp2_with fail
  refine (htd.out w1 (Below.refl _ _)).mono ?_
  rintro e w2 ⟨B2, hcs⟩
  rcases hcs with ⟨hf, _⟩ | ⟨_, va, vb, rfl, hT⟩
  · rw [l18_fm] at hf; cases hf
  rw [l18_rd, l18_wr] at hT
  obtain ⟨a1, c1, rfl, -⟩ := RdI.of_own hT.o1
  obtain ⟨a2, c2, rfl, hrd⟩ := RdI.of_own hT.o2
  obtain ⟨b, off, rfl, -, hcell⟩ := hrd (by simp)
  have z1 : w2.cell? ⟨b, off + 1, none⟩ = some (.int .i64 3) := hcell 1 (by decide)
  have B2H : Hid (Below w1.heap.size w1 w2) := B2
  clear hrd hcell hT x0 x1 x2 x3 x4 y0 y1 y2 y3 y4 y5 y6 B2
  have X2 := X1.out.below B2H.out
  unfold l18p at X2
  obtain ⟨x0, x1, x2, x3, x4⟩ := X2
  go_upto_region 3 with fail
  go_wp2_with fail
  refine (hfl.out w2 B2H.out).mono ?_
  rintro e w3 ⟨rfl, B3'⟩
  have B3 : Hid (Below w1.heap.size w1 w3) := B2H.out.trans (B3'.mono B2H.out.size)
  clear x0 x1 x2 x3 x4 B3' z1
  have X3 := X1.out.below B3.out
  unfold l18p at X3
  obtain ⟨x0, x1, x2, x3, x4⟩ := X3
  go_wp2_with fail
  refine (hck.out w3 B3.out).mono ?_
  rintro e w4 ⟨rfl, B4'⟩
  have B4 : Hid (Below w1.heap.size w1 w4) := B3.out.trans (B4'.mono B3.out.size)
  clear x0 x1 x2 x3 x4 B4'
  go_wp2_with fail
  refine (hnu.out w4 B4.out).mono ?_
  rintro e w5 ⟨rfl, B5'⟩
  have B5 : Hid (Below w1.heap.size w1 w5) := B4.out.trans (B5'.mono B4.out.size)
  clear B5'
  have X5 := X1.out.below B5.out
  have F5 := (World.frozen?_of_block (B5.out.block (g0 + 1) (cell_lt X1.out.c4))).trans F1.out
  unfold l18p at X5
  obtain ⟨x0, x1, x2, x3, x4⟩ := X5
  go_upto_region 6 with fail
  obtain ⟨w6, ew6⟩ : ∃ z, Hid (w5.setCell ⟨g0 + 1, 4, none⟩ (.slice (some ⟨g0, 0, none⟩) 1 2) = z) := ⟨_, (rfl : _ = _)⟩
  rw [ew6.out]
  have hle : w.heap.size ≤ g0 + 1 := by have := hg0.out; omega
  have hB6 : Hid (Below w.heap.size w w6) := by rw [← ew6.out]; exact (B1.out.trans (B5.out.mono B1.out.size)).setCell (p := ⟨g0 + 1, 4, none⟩) hle _
  have S6 : Hid (Ss w6 (some ⟨g0, 0, none⟩) l18q.steps) := fun i s hi => by
    obtain ⟨q, o, e, hs⟩ := S2.out.below B5.out i s hi
    refine ⟨q, o, e, ?_⟩
    injection e with e
    injection e with e1 e2
    subst e1
    rw [← ew6.out]
    constructor <;> (rw [World.cell?_setCell_far _ _ _ _ (by simp)]; first | exact hs.c0 | exact hs.c1 | exact hs.c2 | exact hs.c3 | exact hs.c4 | exact hs.c5 | exact hs.c6)
  have X6 : Hid (Bpg w6 (g0 + 1) l18q (.slice (some ⟨g0, 0, none⟩) 1 2)) := by
    show Bpg _ _ _ _
    rw [← ew6.out]
    constructor <;> simp [World.cell?_setCell_other, World.cell?_setCell_same', x0, x1, x2, x3, x4, l18q]
  have O6 : Hid (Ops w6) := o0.out.below (hB6.out.mono (Nat.le_refl _))
  have P6 : Hid (Pe w6 al) := e0.out.below hB6.out
  clear x0 x1 x2 x3 x4 F5
  have Y6 := X6.out
  unfold l18q at Y6
  obtain ⟨x0, x1, x2, x3, x4⟩ := Y6
  go_wp2_with fail
  refine (hac.out w6 S6.out O6.out P6.out).mono ?_
  rintro e w7 ⟨rfl, B7⟩
  have hB7 : Hid (Below w.heap.size w w7) := hB6.out.trans (B7.mono hB6.out.size)
  have S7 : Hid (Ss w7 (some ⟨g0, 0, none⟩) l18q.steps) := S6.out.below B7
  have X7 := X6.out.below B7
  unfold l18q at X7
  clear x0 x1 x2 x3 x4 B7
  obtain ⟨x0, x1, x2, x3, x4⟩ := X7
  go_wp2_with fail
  refine (hcq.out w7 S7.out (o0.out.below (hB7.out.mono (Nat.le_refl _))) (e0.out.below hB7.out)).mono ?_
  rintro e w8 ⟨rfl, B8⟩
  have hB8 : Hid (Below w.heap.size w w8) := hB7.out.trans (B8.mono hB7.out.size)
  clear x0 x1 x2 x3 x4 B8
  go_wp2
  go_ret
  exact ⟨rfl, hB8.out⟩
end Go.Proofs.YtmnbpmmilfkjiaaDoor
