/-
  How many digits a plain text has; a text of fewer is not read as the float. Plain.
-/
import Derived.Test.YtmfnjmgdindlaaaDoorQj
import Derived.Test.YtmfnjmgdindlaaaDoorShv
namespace Go.Proofs.YtmfnjmgdindlaaaDoor
open Flo
theorem filter_all {l : List UInt8} (h : ∀ b ∈ l, Dg.isD b = true) : l.filter Dg.isD = l := List.filter_eq_self.2 h
theorem dcount_ptx (n : Nat) (x : Int) (mi : Bool) (h0 : 0 < n) : dcount ((if mi then [45] else []) ++ ptx (Lib.decDigits n) x) = (rz (Lib.decDigits n)).length := by
  have hd : ∀ b ∈ rz (Lib.decDigits n), Dg.isD b = true := fun b hb => Dg.dd_all n b (rz_mem hb)
  have hne : rz (Lib.decDigits n) ≠ [] := Dg.rz_ne h0
  rw [ptx_dot]
  generalize rz (Lib.decDigits n) = r at *
  have h1 : ∀ b ∈ (if mi then [(45 : UInt8)] else []) ++ dotted r, b.toNat ≠ 101 := by
    intro b hb
    rcases List.mem_append.1 hb with h | h
    · cases mi with
      | true => simp at h; rw [h]; decide
      | false => simp at h
    · intro e
      exact dotted_ne hd b h (UInt8.toNat_inj.1 e)
  have h2 : (if mi then [(45 : UInt8)] else []) ++ (dotted r ++ [101] ++ Lib.itoa x) = ((if mi then [45] else []) ++ dotted r) ++ 101 :: Lib.itoa x := by simp
  rw [h2, dcount_e _ h1, List.filter_append]
  have h3 : (if mi then [(45 : UInt8)] else []).filter Dg.isD = [] := by cases mi <;> decide
  rw [h3, List.nil_append]
  unfold dotted
  split
  · rw [filter_all hd]
  · rw [List.filter_append, List.filter_append, filter_all (fun b hb => hd b (List.mem_of_mem_take hb)), filter_all (fun b hb => hd b (List.mem_of_mem_drop hb))]
    rw [show ([46] : List UInt8).filter Dg.isD = [] by decide, List.append_nil, List.take_append_drop]
/-- digits of fewer places are not read as the float -/
theorem sp_fewest {E m : Nat} {t : Int} {W L H n : Nat} {X : Bool} (v : View E m t W X L H) (h0 : 0 < m) (h1 : m < 9007199254740992) (h2 : E = 0 ∨ 4503599627370496 ≤ m) (hE : E ≤ 2045) (hs : Rd.Srt W X L H n)
    {r : List UInt8} {y : Int} {s : Nat} (hd : ∀ b ∈ r, Dg.isD b = true) (hne : r ≠ []) (hr : r.length < (rz (Lib.decDigits n)).length) (hp : Rd.Sp (Dg.dv r) y s) (hi : s < Rd.inf) : s ≠ E * 4503599627370496 + m := by
  intro e
  rcases hp with ⟨_, e0⟩ | ⟨_, ⟨_, hn⟩ | ⟨hi', _⟩⟩
  · omega
  · rw [e] at hn
    exact srt_fewest v h0 h1 h2 hE hs (List.length_pos_iff.2 hne) hr (Dg.dv_lt r hd) hn
  · omega
end Go.Proofs.YtmfnjmgdindlaaaDoor
