/-
  The document's digits, text, Text.
-/
import Derived.Test.YtfoblbpbhldngaaDoorOd3
import Derived.Test.YtfoblbpbhldngaaDoorDgq
import Derived.Laws.IdiomStrings
namespace Go.Proofs.YtfoblbpbhldngaaDoor
open Flo Go.RowKit Tr
open Lib (decDigits)
/-- a text by its signs -/
def Bt (l : List UInt8) : ByteArray := ⟨l.toArray⟩
theorem Bt_size (l : List UInt8) : (Bt l).size = l.length := by simp [Bt, ByteArray.size]
theorem Bt_data (l : List UInt8) : (Bt l).data.toList = l := by simp [Bt]
theorem Bt_of (s : ByteArray) : s = Bt s.data.toList := by simp [Bt]
theorem Bt_append (l m : List UInt8) : Bt l ++ Bt m = Bt (l ++ m) := by
  unfold Bt
  apply ByteArray.ext
  simp
theorem Bt_inj {l m : List UInt8} (h : Bt l = Bt m) : l = m := by rw [← Bt_data l, h, Bt_data]
namespace Tr
/-- the text, out of the Kids' texts -/
def txc (k n : Int) (ts : List (List UInt8)) : List UInt8 :=
  if k = 1 then 100 :: decDigits n.toNat
  else if k = 2 then 102 :: decDigits n.toNat
  else if k = 3 then 40 :: (ts.getD 0 [] ++ ([32, 120, 32] ++ (ts.getD 1 [] ++ [41])))
  else 98 :: (decDigits n.toNat ++ (40 :: (ts.getD 0 [] ++ [41])))
def tx : Tr → List UInt8
  | ⟨k, n, ks⟩ => txc k n (ks.map tx)
theorem tx_eq (k n : Int) (ks : List Tr) : tx ⟨k, n, ks⟩ = txc k n (ks.map tx) := by rw [tx]
/-- what a good order is -/
theorem ln_inv {k n : Int} {ks : List Tr} (h : 0 < ln ⟨k, n, ks⟩) :
    (k = 1 ∧ (1 ≤ n ∧ n ≤ 64) ∧ ks = []) ∨ (k = 2 ∧ (2 ≤ n ∧ n ≤ 5) ∧ ks = []) ∨ (k = 3 ∧ n = 0 ∧ ∃ x y, ks = [x, y] ∧ 2 ≤ ln x ∧ 2 ≤ ln y ∧ ln x * ln y = ln ⟨k, n, ks⟩) ∨ (k = 4 ∧ (2 ≤ n ∧ n ≤ 8192) ∧ ∃ x, ks = [x] ∧ 2 * n - 1 ≤ (ln x : Int)) := by
  rw [ln_eq] at h ⊢
  unfold lnc at h ⊢
  by_cases h1 : k = 1
  · left
    rw [if_pos h1] at h
    by_cases h2 : 1 ≤ n ∧ n ≤ 64 ∧ ks.map ln = []
    · exact ⟨h1, ⟨h2.1, h2.2.1⟩, List.map_eq_nil_iff.1 h2.2.2⟩
    · rw [if_neg h2] at h; omega
  · right
    rw [if_neg h1] at h ⊢
    by_cases h2 : k = 2
    · left
      rw [if_pos h2] at h
      by_cases h3 : 2 ≤ n ∧ n ≤ 5 ∧ ks.map ln = []
      · exact ⟨h2, ⟨h3.1, h3.2.1⟩, List.map_eq_nil_iff.1 h3.2.2⟩
      · rw [if_neg h3] at h; omega
    · right
      rw [if_neg h2] at h ⊢
      by_cases h3 : k = 3
      · left
        rw [if_pos h3] at h ⊢
        by_cases h4 : n = 0
        · rw [if_pos h4] at h ⊢
          by_cases h5 : ks.length = 2
          · obtain ⟨x, y, rfl⟩ := len2 h5
            have e : tms ([x, y].map ln) = if 2 ≤ ln x ∧ 2 ≤ ln y ∧ ln x ≤ 16384 / ln y then ln x * ln y else 0 := rfl
            rw [e] at h ⊢
            by_cases h6 : 2 ≤ ln x ∧ 2 ≤ ln y ∧ ln x ≤ 16384 / ln y
            · rw [if_pos h6]
              exact ⟨h3, h4, x, y, rfl, h6.1, h6.2.1, rfl⟩
            · rw [if_neg h6] at h; omega
          · rw [tms_ne (by rw [List.length_map]; exact h5)] at h; omega
        · rw [if_neg h4] at h; omega
      · right
        rw [if_neg h3] at h
        by_cases h4 : k = 4
        · rw [if_pos h4] at h
          by_cases h5 : 2 ≤ n ∧ n ≤ 8192
          · rw [if_pos h5] at h
            by_cases h6 : ks.length = 1
            · obtain ⟨x, rfl⟩ := len1 h6
              have e : blu n ([x].map ln) = if 2 * n - 1 ≤ (ln x : Int) then n.toNat else 0 := rfl
              rw [e] at h
              by_cases h7 : 2 * n - 1 ≤ (ln x : Int)
              · exact ⟨h4, h5, x, rfl, h7⟩
              · rw [if_neg h7] at h; omega
            · rw [blu_ne (by rw [List.length_map]; exact h6)] at h; omega
          · rw [if_neg h5] at h; omega
        · rw [if_neg h4] at h; omega
theorem dd_short {n : Nat} (h0 : 0 < n) (h1 : n ≤ 16384) : (decDigits n).length ≤ 10 := by
  have h := (Dg.dd_len h0).1
  by_cases hh : (decDigits n).length ≤ 10
  · exact hh
  · have h2 : 10 ^ 10 ≤ 10 ^ ((decDigits n).length - 1) := Nat.pow_le_pow_right (by decide) (by omega)
    have h3 : (16384 : Nat) < 10 ^ 10 := by decide
    omega
theorem tx_len (t : Tr) : 0 < ln t → (tx t).length ≤ 20 * pt t := by
  refine ind (P := fun t => 0 < ln t → (tx t).length ≤ 20 * pt t) (fun k n ks ih h => ?_) t
  rw [tx_eq, pt_eq]
  unfold txc
  rcases ln_inv h with ⟨rfl, h2, rfl⟩ | ⟨rfl, h2, rfl⟩ | ⟨rfl, rfl, x, y, rfl, h2, h3, _⟩ | ⟨rfl, h2, x, rfl, h3⟩
  · rw [if_pos rfl, List.length_cons]
    have := dd_short (n := n.toNat) (by omega) (by omega)
    simp; omega
  · rw [if_neg (by decide), if_pos rfl, List.length_cons]
    have := dd_short (n := n.toNat) (by omega) (by omega)
    simp; omega
  · rw [if_neg (by decide), if_neg (by decide), if_pos rfl]
    have h4 := ih x (by simp) (by omega)
    have h5 := ih y (by simp) (by omega)
    simp
    omega
  · rw [if_neg (by decide), if_neg (by decide), if_neg (by decide)]
    have h4 := ih x (by simp) (by omega)
    have := dd_short (n := n.toNat) (by omega) (by omega)
    simp
    omega
end Tr
end Go.Proofs.YtfoblbpbhldngaaDoor
