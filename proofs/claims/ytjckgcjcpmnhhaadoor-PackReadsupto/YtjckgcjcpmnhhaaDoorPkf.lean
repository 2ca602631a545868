/-
  Package pack: what was read is written again, byte for byte. Plain.
-/
import Derived.Test.YtjckgcjcpmnhhaaDoorPke
namespace Go.Proofs.YtjckgcjcpmnhhaaDoor
open Flo Go.RowKit
theorem take_split {α : Type} (l : List α) (a b : Nat) : l.take (a + b) = l.take a ++ (l.drop a).take b := by rw [List.take_add]
theorem drop_split (l : List Nat) (k a b : Nat) : (l.drop k).take (a + b) = (l.drop k).take a ++ (l.drop (k + a)).take b := by
  rw [take_split, List.drop_drop]
section
variable {bs : List Nat} {K : Nat}
theorem of_uint (hb : ∀ b ∈ bs, b < 256) (hK : K ≤ bs.length) {x n : Nat} (h : Pk.rv 0 0 (bs.drop K) = .ok (x, n)) : Pk.vi x = (bs.drop K).take n ∧ 0 < n ∧ K + n ≤ bs.length ∧ x < 18446744073709551616 := by
  obtain ⟨y, m, e1, e2, e3, e4, e5, e6, e7⟩ := Pk.rv_ok (bs.drop K) 0 0 x n (by decide) (by decide) (fun b h => hb b (List.mem_of_mem_drop h)) h
  rw [List.length_drop] at e4
  have hy : x = y := by simpa using e1
  have hn : n = m := by omega
  subst hy; subst hn
  exact ⟨e3, e5, by omega, e7⟩
theorem of_float (hb : ∀ b ∈ bs, b < 256) {x n : Nat} (h : rfl_ bs K = .ok (x, n)) : Pk.lo 8 (bt x) = (bs.drop K).take n ∧ 0 < n ∧ K + n ≤ bs.length ∧ x < 18446744073709551616 ∧ n = 8 ∧ bt x = x := by
  unfold rfl_ at h
  by_cases h1 : bs.length - K < 8
  · rw [if_pos h1] at h; cases h
  · rw [if_neg h1] at h
    by_cases h2 : bt (nf bs K 8) = nf bs K 8
    · rw [if_pos h2] at h
      cases h
      exact ⟨by rw [h2]; exact nf_lo hb (by omega), by decide, by omega, nf_8 hb (by omega), rfl, h2⟩
    · rw [if_neg h2] at h; cases h
theorem of_complex (hb : ∀ b ∈ bs, b < 256) {x : Nat × Nat} {n : Nat} (h : rcx bs K = .ok (x, n)) : Pk.lo 8 (bt x.1) ++ Pk.lo 8 (bt x.2) = (bs.drop K).take n ∧ 0 < n ∧ K + n ≤ bs.length ∧ x.1 < 18446744073709551616 ∧ x.2 < 18446744073709551616 ∧ n = 16 := by
  unfold rcx at h
  by_cases h1 : bs.length - K < 16
  · rw [if_pos h1] at h; cases h
  · rw [if_neg h1] at h
    by_cases h2 : bt (nf bs K 8) = nf bs K 8 ∧ bt (nf bs (K + 8) 8) = nf bs (K + 8) 8
    · rw [if_pos h2] at h
      cases h
      refine ⟨?_, by decide, by omega, nf_8 hb (by omega), nf_8 hb (by omega), rfl⟩
      show Pk.lo 8 (bt (nf bs K 8)) ++ Pk.lo 8 (bt (nf bs (K + 8) 8)) = _
      rw [h2.1, h2.2, nf_lo hb (by omega), nf_lo hb (by omega)]
      exact (drop_split bs K 8 8).symm
    · rw [if_neg h2] at h; cases h
theorem of_narrow (hb : ∀ b ∈ bs, b < 256) {x : Nat × Nat} {n : Nat} (h : rnw bs K = .ok (x, n)) : Pk.lo 4 (bt32 x.1) ++ Pk.lo 4 (bt32 x.2) = (bs.drop K).take n ∧ 0 < n ∧ K + n ≤ bs.length ∧ x.1 < 4294967296 ∧ x.2 < 4294967296 := by
  unfold rnw at h
  by_cases h1 : bs.length - K < 8
  · rw [if_pos h1] at h; cases h
  · rw [if_neg h1] at h
    by_cases h2 : bt32 (nf bs K 4) = nf bs K 4 ∧ bt32 (nf bs (K + 4) 4) = nf bs (K + 4) 4
    · rw [if_pos h2] at h
      cases h
      refine ⟨?_, by decide, by omega, nf_4 hb (by omega), nf_4 hb (by omega)⟩
      show Pk.lo 4 (bt32 (nf bs K 4)) ++ Pk.lo 4 (bt32 (nf bs (K + 4) 4)) = _
      rw [h2.1, h2.2, nf_lo hb (by omega), nf_lo hb (by omega)]
      exact (drop_split bs K 4 4).symm
    · rw [if_neg h2] at h; cases h
theorem upr_inv {most : Int} {r : Except Nat (Nat × Nat)} {c n : Nat} (h : upr most r = .ok (c, n)) : r = .ok (c, n) ∧ (c : Int) ≤ most := by
  cases r with
  | error e => cases h
  | ok p =>
    obtain ⟨x, m⟩ := p
    by_cases hx : most < 0 ∨ most < (x : Int)
    · rw [upr_lim hx] at h; cases h
    · rw [upr_ok hx] at h; cases h; exact ⟨rfl, by omega⟩
theorem of_text (hb : ∀ b ∈ bs, b < 256) (hK : K ≤ bs.length) {most : Int} {l : List Nat} {n : Nat} (h : rtx most bs K = .ok (l, n)) :
    Pk.vi (mkS l).size ++ sb (mkS l) = (bs.drop K).take n ∧ 0 < n ∧ K + n ≤ bs.length ∧ ((mkS l).size : Int) ≤ most := by
  cases hr : upr most (Pk.rv 0 0 (bs.drop K)) with
  | error e => rw [rtx_e hr] at h; cases h
  | ok p =>
    obtain ⟨c, m⟩ := p
    by_cases hs : bs.length - (K + m) < c
    · rw [rtx_s hr hs] at h; cases h
    · rw [rtx_ok hr hs] at h
      cases h
      obtain ⟨h1, h2⟩ := upr_inv hr
      obtain ⟨h3, h4, h5, h6⟩ := of_uint hb hK h1
      have hl : ((bs.drop (K + m)).take c).length = c := by rw [List.length_take, List.length_drop]; omega
      rw [mkS_size, hl, sb_mkS fun b hb' => hb b (List.mem_of_mem_drop (List.mem_of_mem_take hb')), h3]
      exact ⟨(drop_split bs K m c).symm, by omega, by omega, h2⟩
/-- all elements take e bytes -/
theorem go_all {α : Type} {rd : Nat → Except Nat (α × Nat)} {f : α → List Nat} {e : Nat} (hrd : ∀ k x n, rd k = .ok (x, n) → f x = (bs.drop k).take n ∧ n = e ∧ k + n ≤ bs.length) :
    ∀ (c k : Nat) (acc xs : List α) (j : Nat), k ≤ bs.length → go_ rd c k acc = .ok (xs, j) → ∃ ys, xs = acc ++ ys ∧ ys.length = c ∧ j = k + e * c ∧ ys.flatMap f = (bs.drop k).take (e * c) ∧ j ≤ bs.length ∧ ∀ y ∈ ys, ∃ k n, rd k = .ok (y, n)
  | 0, k, acc, xs, j, hk, h => by
    cases h
    exact ⟨[], by simp, rfl, by simp, by simp, hk, fun y hy => by cases hy⟩
  | c + 1, k, acc, xs, j, hk, h => by
    cases hr : rd k with
    | error er => rw [go_err hr (by omega)] at h; cases h
    | ok p =>
      obtain ⟨x, n⟩ := p
      rw [go_ok hr (by omega)] at h
      obtain ⟨h1, h2, h3⟩ := hrd k x n hr
      obtain ⟨ys, e1, e2, e3, e4, e5, e6⟩ := go_all hrd c (k + n) _ xs j h3 h
      refine ⟨x :: ys, by rw [e1]; simp, by rw [List.length_cons, e2], ?_, ?_, e5, fun y hy => ?_⟩
      · rw [e3, h2, Nat.mul_succ]; omega
      · rw [List.flatMap_cons, h1, e4, h2, Nat.mul_succ, Nat.add_comm (e * c) e, drop_split]
      · rcases List.mem_cons.1 hy with rfl | hy
        · exact ⟨k, n, hr⟩
        · exact e6 y hy
theorem rli_inv {α : Type} {rd : Nat → Except Nat (α × Nat)} {xs : List α} {n : Nat} (h : rli rd bs K = .ok (xs, n)) : ∃ c m j, Pk.rv 0 0 (bs.drop K) = .ok (c, m) ∧ c ≤ 1048576 ∧ go_ rd c (K + m) [] = .ok (xs, j) ∧ n = j - K := by
  unfold rli at h
  cases hr : upr 1048576 (Pk.rv 0 0 (bs.drop K)) with
  | error e => rw [hr] at h; cases h
  | ok p =>
    obtain ⟨c, m⟩ := p
    rw [hr] at h
    obtain ⟨h1, h2⟩ := upr_inv hr
    cases hg : go_ rd c (K + m) [] with
    | error e =>
      have h3 : rlo rd K (.ok (c, m)) = .error e := by show rl2 K (go_ rd c (K + m) []) = _; rw [hg]; rfl
      rw [h3] at h; cases h
    | ok q =>
      obtain ⟨ys, j⟩ := q
      have h3 : rlo rd K (.ok (c, m)) = .ok (ys, j - K) := by show rl2 K (go_ rd c (K + m) []) = _; rw [hg]; rfl
      rw [h3] at h; cases h
      exact ⟨c, m, j, h1, by omega, hg, rfl⟩
theorem of_floats (hb : ∀ b ∈ bs, b < 256) (hK : K ≤ bs.length) {xs : List Nat} {n : Nat} (h : rli (rfl_ bs) bs K = .ok (xs, n)) :
    Pk.vi xs.length ++ fbs xs = (bs.drop K).take n ∧ 0 < n ∧ K + n ≤ bs.length ∧ xs.length ≤ 1048576 ∧ ∀ z ∈ xs, z < 18446744073709551616 := by
  obtain ⟨c, m, j, h1, h2, h3, h4⟩ := rli_inv h
  obtain ⟨h5, h6, h7, h8⟩ := of_uint hb hK h1
  obtain ⟨ys, e1, e2, e3, e4, e5, e6⟩ := go_all (f := fun z => Pk.lo 8 (bt z)) (e := 8) (fun k x n hh => by
    obtain ⟨q1, q2, q3, q4, q5, q6⟩ := of_float hb hh
    exact ⟨q1, q5, q3⟩) c (K + m) [] xs j h7 h3
  rw [List.nil_append] at e1
  subst e1
  refine ⟨?_, by omega, by omega, by omega, fun z hz => ?_⟩
  · unfold fbs
    rw [e2, h5, e4, h4, e3, show K + m + 8 * c - K = m + 8 * c by omega, drop_split]
  · obtain ⟨k, n', hh⟩ := e6 z hz
    exact (of_float hb hh).2.2.2.1
theorem of_list (hb : ∀ b ∈ bs, b < 256) (hK : K ≤ bs.length) {xs : List (Nat × Nat)} {n : Nat} (h : rli (rcx bs) bs K = .ok (xs, n)) :
    Pk.vi xs.length ++ cbs xs = (bs.drop K).take n ∧ 0 < n ∧ K + n ≤ bs.length ∧ xs.length ≤ 1048576 ∧ ∀ z ∈ xs, z.1 < 18446744073709551616 ∧ z.2 < 18446744073709551616 := by
  obtain ⟨c, m, j, h1, h2, h3, h4⟩ := rli_inv h
  obtain ⟨h5, h6, h7, h8⟩ := of_uint hb hK h1
  obtain ⟨ys, e1, e2, e3, e4, e5, e6⟩ := go_all (f := fun z => Pk.lo 8 (bt z.1) ++ Pk.lo 8 (bt z.2)) (e := 16) (fun k x n hh => by
    obtain ⟨q1, q2, q3, q4, q5, q6⟩ := of_complex hb hh
    exact ⟨q1, q6, q3⟩) c (K + m) [] xs j h7 h3
  rw [List.nil_append] at e1
  subst e1
  refine ⟨?_, by omega, by omega, by omega, fun z hz => ?_⟩
  · unfold cbs
    rw [e2, h5, e4, h4, e3, show K + m + 16 * c - K = m + 16 * c by omega, drop_split]
  · obtain ⟨k, n', hh⟩ := e6 z hz
    exact ⟨(of_complex hb hh).2.2.2.1, (of_complex hb hh).2.2.2.2.1⟩
end
end Go.Proofs.YtjckgcjcpmnhhaaDoor
