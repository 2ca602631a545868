/-
  Bytes as a string.
-/
import Derived.Test.YtmlfichdfeblpaaDoorPk4
import Derived.Laws.IdiomStrings
namespace Go.Proofs.YtmlfichdfeblpaaDoor
open Flo Go.RowKit
/-- the string of these bytes -/
def mkS (l : List Nat) : ByteArray := ⟨(l.map UInt8.ofNat).toArray⟩
theorem sb_mkS {l : List Nat} (h : ∀ b ∈ l, b < 256) : sb (mkS l) = l := by
  unfold sb mkS
  rw [List.toList_toArray, List.map_map]
  have e : ∀ b ∈ l, (UInt8.toNat ∘ UInt8.ofNat) b = b := fun b hb => by
    show (UInt8.ofNat b).toNat = b
    rw [UInt8.toNat_ofNat']; exact Nat.mod_eq_of_lt (h b hb)
  rw [List.map_congr_left e, List.map_id']
theorem mkS_sb (s : ByteArray) : mkS (sb s) = s := by
  unfold sb mkS
  rw [List.map_map]
  have e : ∀ b ∈ s.data.toList, (UInt8.ofNat ∘ fun x : UInt8 => x.toNat) b = b := fun b _ => by
    show UInt8.ofNat b.toNat = b
    exact UInt8.ofNat_toNat
  rw [List.map_congr_left e, List.map_id']
theorem mkS_size (l : List Nat) : (mkS l).size = l.length := by show (List.toArray _).size = _; simp
/-- bytes to a string -/
theorem conv_src {w : World} {v : Value} {ys : List Nat} (h : SrcB w v ys) (hb : ∀ b ∈ ys, b < 256) : (convert 22 9 v).run Tryd.prog w = .ok (.string (mkS ys)) w := by
  rcases h with ⟨rfl, rfl⟩ | ⟨a, cap, rfl, h⟩
  · kernel_rfl
  · have hc := run_convert_bytes_back (P := Tryd.prog) w 22 9 5 a cap (ys.map UInt8.ofNat) Tryd.underlying22 Tryd.underlying5 Tryd.underlying9 (fun j hj => by
      have hj2 : j < ys.length := by simpa using hj
      have e : ((UInt8.ofNat ys[j]).toNat : Int) = (ys[j] : Int) := by
        rw [UInt8.toNat_ofNat', Nat.mod_eq_of_lt (hb _ (List.getElem_mem hj2))]
      have h1 := h j (.int .u8 (ys[j] : Int)) (by simp [bc, hj2])
      rw [h1, List.getElem_map, e])
    rw [List.length_map] at hc
    exact hc
end Go.Proofs.YtmlfichdfeblpaaDoor
