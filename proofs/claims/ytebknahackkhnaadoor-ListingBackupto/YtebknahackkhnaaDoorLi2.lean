/-
  A listing that is read is the text of what was read. Plain.
-/
import Derived.Test.YtebknahackkhnaaDoorLi1
namespace Go.Proofs.YtebknahackkhnaaDoor
open Flo Go.RowKit
theorem opn_inv {t : List UInt8} {o : Nat} (h : opn t = some o) : (nmb o).data.toList = t ∧ 1 ≤ o ∧ o < 12 := by
  unfold opn at h
  have h1 := List.find?_some h
  have h2 := List.mem_of_find?_eq_some h
  simp only [beq_iff_eq] at h1
  refine ⟨h1, ?_⟩
  simp only [List.mem_cons, List.not_mem_nil, or_false] at h2
  omega
theorem whole_some {α : Type} {o : Option (α × List UInt8)} {x : α} (h : Li.whole o = some x) : o = some (x, []) := by
  unfold Li.whole at h
  match o, h with
  | some (a, m), h =>
    simp only [Option.bind_some] at h
    split at h
    · rename_i hm
      have hm' : m = [] := hm
      cases h; rw [hm']
    · cases h
theorem nl_stZ (o : Nat) (xs : List Int) (h : xs.length = 6) : Sp.nl (stZ o xs) = xs := by
  match xs, h with
  | [a, b, c, d, e, f], _ => rfl
theorem stl_inv {l : List UInt8} {s : Sp.St} (h : stl l = some s) : l = lin s := by
  unfold stl at h
  obtain ⟨o, ho, h1⟩ := Option.bind_eq_some_iff.1 h
  obtain ⟨xs, hx, rfl⟩ := Option.map_eq_some_iff.1 h1
  obtain ⟨e1, _, _⟩ := opn_inv ho
  obtain ⟨e2, e3, _⟩ := Li.pf_inv _ _ _ _ (whole_some hx)
  unfold lin
  rw [nl_stZ o xs e3]
  have e4 : (stZ o xs).op.toNat = o := rfl
  rw [e4, e1, ← Li.wd_rs 32 l]
  rw [List.append_nil] at e2
  rw [Li.wd_rs, ← e2, Li.wd_rs]
theorem rls_inv : ∀ (n : Nat) (r : List UInt8) (k : Nat) (ss : List Sp.St), r.length ≤ n → rls (Li.sp 10 r) k = .ok ss → r = lins ss ∧ ∀ s ∈ ss, Sp.fm s = true
  | n, r, k, ss, hn, h => by
    have hwr := Li.wd_rs 10 r
    rw [sp_cut] at h
    rcases Li.rs_head 10 r with he | ⟨q, he⟩
    · rw [if_pos he] at h
      unfold rls at h
      split at h
      · rename_i hw
        cases h
        rw [he, hw] at hwr
        exact ⟨hwr.symm, fun s hs => by cases hs⟩
      · cases h
    · rw [if_neg (by rw [he]; simp), he, List.drop_one, List.tail_cons, rls_more] at h
      rw [he] at hwr
      have hlen : q.length + 1 ≤ r.length := by rw [← hwr]; simp
      cases hs : stl (Li.wd 10 r) with
      | none => rw [hs] at h; cases h
      | some s =>
        rw [hs] at h
        simp only at h
        split at h
        · rename_i hf
          cases hr : rls (Li.sp 10 q) (k + 1) with
          | error e => rw [hr] at h; cases h
          | ok ss' =>
            rw [hr] at h
            cases h
            match n, hn with
            | 0, hn => omega
            | n + 1, hn =>
              obtain ⟨e1, e2⟩ := rls_inv n q (k + 1) ss' (by omega) hr
              refine ⟨?_, fun x hx => ?_⟩
              · rw [lins_cons, ← stl_inv hs, ← e1]; exact hwr.symm
              · rcases List.mem_cons.1 hx with rfl | hx
                · exact hf
                · exact e2 x hx
        · cases h
theorem rls_line : ∀ (n : Nat) (r : List UInt8) (k a : Nat) (b : Bool), r.length ≤ n → rls (Li.sp 10 r) k = .error (a, b) → k ≤ a
  | n, r, k, a, b, hn, h => by
    have hwr := Li.wd_rs 10 r
    rw [sp_cut] at h
    rcases Li.rs_head 10 r with he | ⟨q, he⟩
    · rw [if_pos he] at h
      unfold rls at h
      split at h
      · cases h
      · cases h; exact Nat.le_refl _
    · rw [if_neg (by rw [he]; simp), he, List.drop_one, List.tail_cons, rls_more] at h
      rw [he] at hwr
      have hlen : q.length + 1 ≤ r.length := by rw [← hwr]; simp
      cases hs : stl (Li.wd 10 r) with
      | none => rw [hs] at h; cases h; exact Nat.le_refl _
      | some s =>
        rw [hs] at h
        simp only at h
        split at h
        · cases hr : rls (Li.sp 10 q) (k + 1) with
          | ok ss' => rw [hr] at h; cases h
          | error e =>
            rw [hr] at h
            cases h
            match n, hn with
            | 0, hn => omega
            | n + 1, hn =>
              have := rls_line n q (k + 1) a b (by omega) hr
              omega
        · cases h; exact Nat.le_refl _
theorem hdl_inv {l : List UInt8} {xs : List Int} (h : hdl l = some xs) : l = tim6 ++ Li.enh xs ∧ xs.length = 4 ∧ ∀ x ∈ xs, Li.In64 x := by
  unfold hdl at h
  split at h
  · rename_i hw
    obtain ⟨e1, e2, e3⟩ := Li.ph_inv _ _ _ _ (Li.rs_head 32 l) (whole_some h)
    refine ⟨?_, e2, e3⟩
    rw [List.append_nil] at e1
    rw [← hw, ← e1, Li.wd_rs]
  · cases h
theorem hd_pgw (xs : List Int) (ss : List Sp.St) (h : xs.length = 4) : Sp.hd (pgw xs ss) = xs := by
  match xs, h with
  | [a, b, c, d], _ => rfl
theorem rdt_inv {t : List UInt8} {p : Sp.Pg} (h : rdt t = .ok p) : t = ltx p ∧ Pin p ∧ ∀ s ∈ p.steps, Sp.fm s = true := by
  unfold rdt at h
  have hwr := Li.wd_rs 10 t
  cases hh : hdl (Li.wd 10 t) with
  | none => rw [hh] at h; cases h
  | some xs =>
    rw [hh] at h
    simp only at h
    split at h
    · cases h
    · rename_i hne
      obtain ⟨e1, e2, e3⟩ := hdl_inv hh
      rcases Li.rs_head 10 t with he | ⟨q, he⟩
      · exact absurd he hne
      · rw [he, List.drop_one, List.tail_cons] at h
        rw [he] at hwr
        cases hr : rls (Li.sp 10 q) 2 with
        | error e => rw [hr] at h; cases h
        | ok ss =>
          rw [hr] at h
          cases h
          obtain ⟨f1, f2⟩ := rls_inv _ q 2 ss (Nat.le_refl _) hr
          refine ⟨?_, fun x hx => ?_, f2⟩
          · unfold ltx hdK
            rw [hd_pgw xs ss e2, List.take_of_length_le (by omega)]
            have e5 : (pgw xs ss).steps = ss := rfl
            rw [e5, ← f1, ← hwr, e1]
            simp [tim6]
          · rw [hd_pgw xs ss e2] at hx; exact e3 x hx
theorem rdt_line {t : List UInt8} {a : Nat} {b : Bool} (h : rdt t = .error (a, b)) : 1 ≤ a := by
  unfold rdt at h
  split at h
  · cases h; exact Nat.le_refl _
  · split at h
    · cases h; exact Nat.le_refl _
    · cases hr : rls (Li.sp 10 ((Li.rs 10 t).drop 1)) 2 with
      | ok ss => rw [hr] at h; cases h
      | error e =>
        rw [hr] at h
        cases h
        have := rls_line _ _ 2 a b (Nat.le_refl _) hr
        omega
end Go.Proofs.YtebknahackkhnaaDoor
