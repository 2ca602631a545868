/-
  Package steps: Encode.
-/
import Derived.Test.YtedfjedmapimnaaDoorSp7
namespace Go.Proofs.YtedfjedmapimnaaDoor
open Flo Go.RowKit
theorem pr_mem : ∀ (bl : List Bool) (zs : List Int) (x : Nat), x ∈ Sp.pr bl zs → ∃ z ∈ zs, x = z.toNat
  | [], _, x, h => by simp [Sp.pr] at h
  | _ :: _, [], x, h => by simp [Sp.pr] at h
  | b :: bl, z :: zs, x, h => by
    simp only [Sp.pr, List.mem_append] at h
    rcases h with h | h
    · cases b with
      | false => simp at h
      | true => simp only [cond_true, List.mem_singleton] at h; exact ⟨z, by simp, h⟩
    · obtain ⟨y, hy, e⟩ := pr_mem bl zs x h
      exact ⟨y, by simp [hy], e⟩
theorem pr_len : ∀ (bl : List Bool) (zs : List Int), (Sp.pr bl zs).length ≤ bl.length
  | [], _ => by simp [Sp.pr]
  | _ :: _, [] => by simp [Sp.pr]
  | b :: bl, z :: zs => by
    have := pr_len bl zs
    cases b <;> simp [Sp.pr] <;> omega
theorem enc_len {s : Sp.St} (h : Sp.fm s = true) : (Sp.enc s).length ≤ 70 := by
  have h1 : (Sp.fl s).length ≤ 7 := by
    have := pr_len (Sp.hl s.op.toNat) (Sp.nl s)
    have e : (Sp.hl s.op.toNat).length = 6 := rfl
    simp only [Sp.fl, List.length_cons]
    omega
  have h2 : (Sp.enc s).length ≤ 10 * (Sp.fl s).length := vs_len _ (fun x hx => by
    rcases List.mem_cons.1 hx with rfl | hx
    · have := (Sp.fm_fields h).1; omega
    · obtain ⟨z, hz, rfl⟩ := pr_mem _ _ _ hx
      obtain ⟨i, hi, e⟩ := List.mem_iff_getElem.1 hz
      have := nl_bd h i
      rw [List.getD_eq_getElem?_getD, List.getElem?_eq_getElem hi, Option.getD_some, e] at this
      omega)
  omega
theorem encs_len : ∀ (l : List Sp.St), (∀ s ∈ l, Sp.fm s = true) → (l.flatMap Sp.enc).length ≤ 70 * l.length
  | [], _ => by simp
  | s :: l, h => by
    rw [List.flatMap_cons, List.length_append, List.length_cons]
    have h1 := enc_len (h s (by simp))
    have h2 := encs_len l fun t ht => h t (by simp [ht])
    omega
/-- the numbers ahead of the steps, as far as k -/
def hdk (p : Sp.Pg) (k : Nat) : List Nat := Sp.vs (((Sp.hd p).take k).map Int.toNat)
theorem hdk_succ (p : Sp.Pg) (k : Nat) (hk : k < 4) : hdk p (k + 1) = hdk p k ++ Pk.vi (((Sp.hd p).getD k 0).toNat) :=
  match k, hk with
  | 0, _ => by simp [hdk, Sp.hd, Sp.vs]
  | 1, _ => by simp [hdk, Sp.hd, Sp.vs]
  | 2, _ => by simp [hdk, Sp.hd, Sp.vs]
  | 3, _ => by simp [hdk, Sp.hd, Sp.vs]
  | n + 4, h => absurd h (by omega)
theorem hd_bd {p : Sp.Pg} (h : Sp.inf p = true) {k : Nat} (hk : k < 4) : 0 ≤ (Sp.hd p).getD k 0 ∧ (Sp.hd p).getD k 0 ≤ 262144 := by
  obtain ⟨h1, _⟩ := Sp.inf_parts h
  have hl : (Sp.hd p).length = 4 := rfl
  refine h1 _ ?_
  rw [List.getD_eq_getElem?_getD, List.getElem?_eq_getElem (by rw [hl]; exact hk)]
  exact List.getElem_mem _
theorem hdk_len {p : Sp.Pg} (h : Sp.inf p = true) : ∀ k, k ≤ 4 → (hdk p k).length ≤ 10 * k
  | 0, _ => by simp [hdk, Sp.vs]
  | k + 1, hk => by
    rw [hdk_succ p k (by omega), List.length_append]
    have h1 := hdk_len h k (by omega)
    have h2 := hd_bd h (show k < 4 by omega)
    have h3 := Pk.vi_len (x := ((Sp.hd p).getD k 0).toNat) (by omega)
    omega
theorem encP_eq (p : Sp.Pg) : Sp.encP p = hdk p 4 ++ Pk.vi p.steps.length ++ p.steps.flatMap Sp.enc := by
  unfold Sp.encP
  rw [Sp.vs_app, Sp.vs_one]; rfl
theorem take_enc {l : List Sp.St} {k : Nat} {s : Sp.St} (h : l[k]? = some s) : (l.take (k + 1)).flatMap Sp.enc = (l.take k).flatMap Sp.enc ++ Sp.enc s := by
  obtain ⟨hk, rfl⟩ := List.getElem?_eq_some_iff.1 h
  rw [List.take_succ_eq_append_getElem hk, List.flatMap_append]
  simp
/-- what Encode answers -/
def EncE (al : List Addr) (p : Sp.Pg) (w : World) (e : Ending) (w' : World) : Prop :=
  (Sp.inf p = false ∧ e = .returned (.tuple #[.slice none 0 0, ek al 8]) ∧ Below w.heap.size w w') ∨ (Sp.inf p = true ∧ ∃ v, e = .returned (.tuple #[v, .nilIface]) ∧ NewB w w' v (Sp.encP p))
end Go.Proofs.YtedfjedmapimnaaDoor
