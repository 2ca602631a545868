/-
  What PlannerLists and its fellows rest on, joined: Dgp Dgq Od5 Od8 Od9 Od10 Err.
-/
import Derived.Lib.ItoaNum
import Derived.WalkKit
import Ieee.Arith
import Derived.WalkLawsBesides
import Derived.Test.YtoaccmblaifnmaaDoorProg
import Derived.Deep.DeepCutAuto
import Derived.Deep.QuietTactic
import Derived.Laws.Rows
import Derived.Laws.IdiomStrings
import Derived.Test.YtoaccmblaifnmaaDoorRows
import Derived.LaidEql
import Derived.LaidLaws
import Derived.LaidHandle
import Derived.Stop.Joined
import Derived.Test.YtoaccmblaifnmaaDoorBa5
namespace Go.Proofs.YtoaccmblaifnmaaDoor.Dg
def isD (b : UInt8) : Bool := decide (48 ≤ b.toNat ∧ b.toNat ≤ 57)
/-- how many digits the text begins with -/
def rl (l : List UInt8) : Nat := (l.takeWhile isD).length
/-- the number that digits are -/
def dv (l : List UInt8) : Nat := l.foldl (fun n b => n * 10 + (b.toNat - 48)) 0
theorem dv_snoc (l : List UInt8) (b : UInt8) : dv (l ++ [b]) = dv l * 10 + (b.toNat - 48) := by simp [dv]
theorem foldl_gen (l : List UInt8) : ∀ a : Nat, l.foldl (fun n b => n * 10 + (b.toNat - 48)) a = a * 10 ^ l.length + dv l := by
  induction l with
  | nil => intro a; simp [dv]
  | cons x l ih =>
    intro a
    have h1 := ih (a * 10 + (x.toNat - 48))
    have h2 := ih (0 * 10 + (x.toNat - 48))
    have h3 : dv (x :: l) = l.foldl (fun n b => n * 10 + (b.toNat - 48)) (0 * 10 + (x.toNat - 48)) := rfl
    simp only [List.foldl_cons, List.length_cons]
    rw [h1, h3, h2, Nat.pow_succ]
    generalize 10 ^ l.length = p
    rw [Nat.zero_mul, Nat.zero_add, Nat.add_mul, Nat.add_assoc, Nat.mul_assoc, Nat.mul_comm 10 p]
theorem dv_append (l m : List UInt8) : dv (l ++ m) = dv l * 10 ^ m.length + dv m := by
  have : dv (l ++ m) = m.foldl (fun n b => n * 10 + (b.toNat - 48)) (dv l) := by simp [dv]
  rw [this, foldl_gen]
theorem dv_lt (l : List UInt8) (h : ∀ b ∈ l, isD b = true) : dv l < 10 ^ l.length := by
  induction l with
  | nil => simp [dv]
  | cons x l ih =>
    have e : dv (x :: l) = dv [x] * 10 ^ l.length + dv l := dv_append [x] l
    have h1 := ih (fun b hb => h b (List.mem_cons_of_mem _ hb))
    have h2 : dv [x] ≤ 9 := by
      have := h x List.mem_cons_self
      simp [isD] at this
      simp [dv]; omega
    rw [e, List.length_cons, Nat.pow_succ]
    have := Nat.mul_le_mul_right (10 ^ l.length) h2
    omega
/-- a first digit that isn't nought -/
theorem dv_ge (x : UInt8) (l : List UInt8) (h : 49 ≤ x.toNat) : 10 ^ l.length ≤ dv (x :: l) := by
  have e : dv (x :: l) = dv [x] * 10 ^ l.length + dv l := dv_append [x] l
  have h2 : 1 ≤ dv [x] := by simp [dv]; omega
  rw [e]
  have := Nat.mul_le_mul_right (10 ^ l.length) h2
  omega
/-- without the noughts ahead -/
def tz : List UInt8 → List UInt8
  | [] => []
  | x :: l => if x.toNat = 48 then tz l else x :: l
theorem tz_dv (l : List UInt8) : dv (tz l) = dv l := by
  induction l with
  | nil => rfl
  | cons x l ih =>
    unfold tz
    split
    · rename_i h
      have e : dv (x :: l) = dv [x] * 10 ^ l.length + dv l := dv_append [x] l
      rw [ih, e]
      have : dv [x] = 0 := by simp [dv]; omega
      rw [this]; simp
    · rfl
theorem tz_len (l : List UInt8) : (tz l).length ≤ l.length := by
  induction l with
  | nil => simp [tz]
  | cons x l ih => unfold tz; split <;> simp <;> omega
theorem tz_ge (l : List UInt8) (hd : ∀ b ∈ l, isD b = true) (h : tz l ≠ []) : 10 ^ ((tz l).length - 1) ≤ dv l := by
  rw [← tz_dv]
  induction l with
  | nil => exact absurd rfl h
  | cons x l ih =>
    unfold tz at h ⊢
    split
    · rename_i hx
      rw [if_pos hx] at h
      exact ih (fun b hb => hd b (List.mem_cons_of_mem _ hb)) h
    · rename_i hx
      have := hd x List.mem_cons_self
      simp [isD] at this
      rw [List.length_cons, Nat.add_sub_cancel]
      exact dv_ge x l (by omega)
end Go.Proofs.YtoaccmblaifnmaaDoor.Dg
namespace Go.Proofs.YtoaccmblaifnmaaDoor.Dg
open Go.Lib (decDigits)
theorem dig_byte {d : Nat} (h : d < 10) : (UInt8.ofNat (48 + d)).toNat = 48 + d := by
  rw [UInt8.toNat_ofNat']; omega
theorem dd_small {u : Nat} (h : u < 10) : decDigits u = [UInt8.ofNat (48 + u)] := by rw [decDigits, dif_pos h]
theorem dd_step {u : Nat} (h : ¬ u < 10) : decDigits u = decDigits (u / 10) ++ [UInt8.ofNat (48 + u % 10)] := by rw [decDigits, dif_neg h]
theorem dd_dv (u : Nat) : dv (decDigits u) = u := by
  induction u using Nat.strongRecOn with
  | _ u ih =>
    by_cases h : u < 10
    · rw [dd_small h]
      show 0 * 10 + ((UInt8.ofNat (48 + u)).toNat - 48) = u
      rw [dig_byte h]; omega
    · rw [dd_step h, dv_snoc, ih (u / 10) (by omega), dig_byte (by omega)]; omega
theorem dd_all (u : Nat) : ∀ b ∈ decDigits u, isD b = true := by
  induction u using Nat.strongRecOn with
  | _ u ih =>
    have key : ∀ d, d < 10 → isD (UInt8.ofNat (48 + d)) = true := fun d hd => by
      unfold isD; rw [dig_byte hd]; exact decide_eq_true ⟨by omega, by omega⟩
    by_cases h : u < 10
    · rw [dd_small h]
      intro b hb
      rw [List.mem_singleton.1 hb]; exact key u h
    · rw [dd_step h]
      intro b hb
      rcases List.mem_append.1 hb with hb | hb
      · exact ih (u / 10) (by omega) b hb
      · rw [List.mem_singleton.1 hb]; exact key _ (by omega)
theorem dd_ne (u : Nat) : decDigits u ≠ [] := by
  by_cases h : u < 10
  · rw [dd_small h]; simp
  · rw [dd_step h]; simp
theorem tz_app {l m : List UInt8} (h : tz l = l) (hl : l ≠ []) : tz (l ++ m) = l ++ m := by
  cases l with
  | nil => exact absurd rfl hl
  | cons x l =>
    show (if x.toNat = 48 then tz (l ++ m) else x :: (l ++ m)) = x :: (l ++ m)
    by_cases hx : x.toNat = 48
    · exfalso
      have h2 : (if x.toNat = 48 then tz l else x :: l) = x :: l := h
      rw [if_pos hx] at h2
      have := tz_len l
      rw [h2] at this
      simp at this
      omega
    · rw [if_neg hx]
theorem dd_tz {u : Nat} (h0 : 0 < u) : tz (decDigits u) = decDigits u := by
  induction u using Nat.strongRecOn with
  | _ u ih =>
    by_cases h : u < 10
    · rw [dd_small h]
      show (if (UInt8.ofNat (48 + u)).toNat = 48 then tz [] else [UInt8.ofNat (48 + u)]) = _
      rw [if_neg (by rw [dig_byte h]; omega)]
    · rw [dd_step h]
      exact tz_app (ih (u / 10) (by omega) (by omega)) (dd_ne _)
theorem dd_len {u : Nat} (h0 : 0 < u) : 10 ^ ((decDigits u).length - 1) ≤ u ∧ u < 10 ^ (decDigits u).length ∧ 1 ≤ (decDigits u).length := by
  have h1 := tz_ge (decDigits u) (dd_all u) (by rw [dd_tz h0]; exact dd_ne u)
  rw [dd_tz h0, dd_dv] at h1
  have h2 := dv_lt (decDigits u) (dd_all u)
  rw [dd_dv] at h2
  refine ⟨h1, h2, ?_⟩
  exact List.length_pos_iff.2 (dd_ne u)
end Go.Proofs.YtoaccmblaifnmaaDoor.Dg
namespace Go.Proofs.YtoaccmblaifnmaaDoor
open Flo Go.RowKit Tr
open Lib (decDigits)
/-- a text by its signs -/
def Bt (l : List UInt8) : ByteArray := ⟨l.toArray⟩
theorem Bt_size (l : List UInt8) : (Bt l).size = l.length := by simp [Bt, ByteArray.size]
theorem Bt_append (l m : List UInt8) : Bt l ++ Bt m = Bt (l ++ m) := by
  unfold Bt
  apply ByteArray.ext
  simp
set_option maxHeartbeats 1000000 in
theorem rdigits_c (n : Nat) (w : World) (h0 : 0 < n) (h1 : n ≤ 16384) :
    Calls Tryd.prog 91 #[.int .i64 (n : Int)] w fun e w' => e = .returned (.string (Bt (decDigits n))) ∧ Below w.heap.size w w' := by
  have hLen : Hid ((decDigits n).length ≤ 100) := by
    have h := (Dg.dd_len h0).1
    show _ ≤ _
    by_cases hh : (decDigits n).length ≤ 100
    · exact hh
    · have h2 : 10 ^ 99 ≤ 10 ^ ((decDigits n).length - 1) := Nat.pow_le_pow_right (by decide) (by omega)
      have h3 : (16384 : Nat) < 10 ^ 99 := by decide
      omega
  go_enter Tryd.func91, Tryd.ntmps91
  go_wp2_with fail
  go_loopw [0, 3] (fun sn ss wx => ∃ (c : Nat) (l : List UInt8), c ≤ 16384 ∧ sn = .int .i64 (c : Int) ∧ ss = .string (Bt l) ∧ Hid ((0 < c ∧ decDigits n = decDigits c ++ l) ∨ (c = 0 ∧ decDigits n = l)) ∧ Hid (Below w.heap.size w wx)) (fun sn _ _ => (intOf sn).toNat)
  case atStart => exact ⟨n, [], h1, rfl, rfl, .inl ⟨h0, by simp⟩, Below.refl _ _⟩
  case round =>
    obtain ⟨c, l, hc, rfl, rfl, hl, hb⟩ := hrel
    by_cases hlt : 0 < c
    · have hlt' : (c : Int) > 0 := by omega
      obtain ⟨M, hM, hM1⟩ : ∃ M : Nat, Hid (M = c % 10) ∧ (c : Int).tmod 10 = (M : Int) := ⟨c % 10, (rfl : _ = _), by rw [Int.tmod_eq_emod_of_nonneg (by omega)]; omega⟩
      obtain ⟨Q, hQ, hQ1⟩ : ∃ Q : Nat, Hid (Q = c / 10) ∧ (c : Int).tdiv 10 = (Q : Int) := ⟨c / 10, (rfl : _ = _), by rw [Int.tdiv_eq_ediv_of_nonneg (by omega)]; omega⟩
      have hM2 : M < 10 := by rw [hM.out]; omega
      have hcv : (convert 69 9 (.slice (some ⟨wr.heap.size, 0, none⟩) 1 1)).run Tryd.prog (wr.alloc (.cells #[.int .u8 (48 + (M : Int))] 5)) = .ok (.string (Bt [UInt8.ofNat (48 + M)])) (wr.alloc (.cells #[.int .u8 (48 + (M : Int))] 5)) := by
        have hc := run_convert_bytes_back (P := Tryd.prog) (wr.alloc (.cells #[.int .u8 (48 + (M : Int))] 5)) 69 9 5 ⟨wr.heap.size, 0, none⟩ 1 [UInt8.ofNat (48 + M)] Tryd.underlying69 Tryd.underlying5 Tryd.underlying9 (fun j hj => by
          have e : j = 0 := by simp at hj; omega
          subst e
          rw [show (⟨wr.heap.size, 0, none⟩ : Addr).add 0 = ⟨wr.heap.size, 0, none⟩ from rfl, cell_of_row _ _ _ _ _ _ (heap_alloc_new wr _)]
          simp only [List.getElem_cons_zero, Dg.dig_byte hM2]
          rfl)
        exact hc
      have hB : Hid (Below w.heap.size w (wr.alloc (.cells #[.int .u8 (48 + (M : Int))] 5))) := hb.out.alloc hb.out.size _
      have hnew : Hid ((0 < Q ∧ decDigits n = decDigits Q ++ ([UInt8.ofNat (48 + M)] ++ l)) ∨ (Q = 0 ∧ decDigits n = [UInt8.ofNat (48 + M)] ++ l)) := by
        rcases hl.out with ⟨_, h⟩ | ⟨h, _⟩
        · by_cases h10 : c < 10
          · right
            refine ⟨by rw [hQ.out]; omega, ?_⟩
            rw [h, Dg.dd_small h10, hM.out, Nat.mod_eq_of_lt h10]
          · left
            refine ⟨by rw [hQ.out]; omega, ?_⟩
            rw [h, Dg.dd_step h10, hM.out, hQ.out, List.append_assoc]
        · omega
      have happ : Hid (Bt [UInt8.ofNat (48 + M)] ++ Bt l = Bt ([UInt8.ofNat (48 + M)] ++ l)) := Bt_append _ l
      have hsz : (Bt [UInt8.ofNat (48 + M)]).size + (Bt l).size ≤ 200 := by
        rw [Bt_size, Bt_size]
        have h1 := hLen.out
        have h2 : l.length ≤ (decDigits n).length := by rcases hl.out with ⟨_, h⟩ | ⟨_, h⟩ <;> rw [h] <;> simp
        simp only [List.length_singleton]
        omega
      generalize Bt [UInt8.ofNat (48 + M)] = X at *
      have hsz2 : ¬ 9223372036854775807 < X.size + (Bt l).size := by omega
      have hQ3 : Q ≤ 16384 := by rw [hQ.out]; omega
      have hQ4 : Q < c := by rw [hQ.out]; omega
      go_wp2_with fail
      go_roundw
      case rel => exact ⟨Q, _, hQ3, rfl, by rw [happ.out], hnew, hB⟩
      case measure => simp [intOf]; omega
    · have hlt' : decide ((c : Int) > 0) = false := decide_eq_false (by omega)
      have hfin : Hid (l = decDigits n) := by
        rcases hl.out with ⟨h, _⟩ | ⟨_, h⟩
        · omega
        · exact h.symm
      go_wp2_with fail
      go_ret
      exact ⟨by rw [← hfin.out]; rfl, hb.out⟩
namespace Tr
/-- the text, out of the Kids' texts -/
def txc (k n : Int) (ts : List (List UInt8)) : List UInt8 :=
  if k = 1 then 100 :: decDigits n.toNat
  else if k = 2 then 102 :: decDigits n.toNat
  else if k = 3 then 40 :: (ts.getD 0 [] ++ ([32, 120, 32] ++ (ts.getD 1 [] ++ [41])))
  else 98 :: (decDigits n.toNat ++ (40 :: (ts.getD 0 [] ++ [41])))
def tx : Tr → List UInt8
  | ⟨k, n, ks⟩ => txc k n (ks.map tx)
theorem tx_eq (k n : Int) (ks : List Tr) : tx ⟨k, n, ks⟩ = txc k n (ks.map tx) := by rw [tx]
/-- what a good order is -/
theorem ln_inv {k n : Int} {ks : List Tr} (h : 0 < ln ⟨k, n, ks⟩) :
    (k = 1 ∧ (1 ≤ n ∧ n ≤ 64) ∧ ks = []) ∨ (k = 2 ∧ (2 ≤ n ∧ n ≤ 5) ∧ ks = []) ∨ (k = 3 ∧ n = 0 ∧ ∃ x y, ks = [x, y] ∧ 2 ≤ ln x ∧ 2 ≤ ln y ∧ ln x * ln y = ln ⟨k, n, ks⟩) ∨ (k = 4 ∧ (2 ≤ n ∧ n ≤ 8192) ∧ ∃ x, ks = [x] ∧ 2 * n - 1 ≤ (ln x : Int)) := by
  rw [ln_eq] at h ⊢
  unfold lnc at h ⊢
  by_cases h1 : k = 1
  · left
    rw [if_pos h1] at h
    by_cases h2 : 1 ≤ n ∧ n ≤ 64 ∧ ks.map ln = []
    · exact ⟨h1, ⟨h2.1, h2.2.1⟩, List.map_eq_nil_iff.1 h2.2.2⟩
    · rw [if_neg h2] at h; omega
  · right
    rw [if_neg h1] at h ⊢
    by_cases h2 : k = 2
    · left
      rw [if_pos h2] at h
      by_cases h3 : 2 ≤ n ∧ n ≤ 5 ∧ ks.map ln = []
      · exact ⟨h2, ⟨h3.1, h3.2.1⟩, List.map_eq_nil_iff.1 h3.2.2⟩
      · rw [if_neg h3] at h; omega
    · right
      rw [if_neg h2] at h ⊢
      by_cases h3 : k = 3
      · left
        rw [if_pos h3] at h ⊢
        by_cases h4 : n = 0
        · rw [if_pos h4] at h ⊢
          by_cases h5 : ks.length = 2
          · obtain ⟨x, y, rfl⟩ := len2 h5
            have e : tms ([x, y].map ln) = if 2 ≤ ln x ∧ 2 ≤ ln y ∧ ln x ≤ 16384 / ln y then ln x * ln y else 0 := rfl
            rw [e] at h ⊢
            by_cases h6 : 2 ≤ ln x ∧ 2 ≤ ln y ∧ ln x ≤ 16384 / ln y
            · rw [if_pos h6]
              exact ⟨h3, h4, x, y, rfl, h6.1, h6.2.1, rfl⟩
            · rw [if_neg h6] at h; omega
          · rw [tms_ne (by rw [List.length_map]; exact h5)] at h; omega
        · rw [if_neg h4] at h; omega
      · right
        rw [if_neg h3] at h
        by_cases h4 : k = 4
        · rw [if_pos h4] at h
          by_cases h5 : 2 ≤ n ∧ n ≤ 8192
          · rw [if_pos h5] at h
            by_cases h6 : ks.length = 1
            · obtain ⟨x, rfl⟩ := len1 h6
              have e : blu n ([x].map ln) = if 2 * n - 1 ≤ (ln x : Int) then n.toNat else 0 := rfl
              rw [e] at h
              by_cases h7 : 2 * n - 1 ≤ (ln x : Int)
              · exact ⟨h4, h5, x, rfl, h7⟩
              · rw [if_neg h7] at h; omega
            · rw [blu_ne (by rw [List.length_map]; exact h6)] at h; omega
          · rw [if_neg h5] at h; omega
        · rw [if_neg h4] at h; omega
theorem dd_short {n : Nat} (h0 : 0 < n) (h1 : n ≤ 16384) : (decDigits n).length ≤ 10 := by
  have h := (Dg.dd_len h0).1
  by_cases hh : (decDigits n).length ≤ 10
  · exact hh
  · have h2 : 10 ^ 10 ≤ 10 ^ ((decDigits n).length - 1) := Nat.pow_le_pow_right (by decide) (by omega)
    have h3 : (16384 : Nat) < 10 ^ 10 := by decide
    omega
theorem tx_len (t : Tr) : 0 < ln t → (tx t).length ≤ 20 * pt t := by
  refine ind (P := fun t => 0 < ln t → (tx t).length ≤ 20 * pt t) (fun k n ks ih h => ?_) t
  rw [tx_eq, pt_eq]
  unfold txc
  rcases ln_inv h with ⟨rfl, h2, rfl⟩ | ⟨rfl, h2, rfl⟩ | ⟨rfl, rfl, x, y, rfl, h2, h3, _⟩ | ⟨rfl, h2, x, rfl, h3⟩
  · rw [if_pos rfl, List.length_cons]
    have := dd_short (n := n.toNat) (by omega) (by omega)
    simp; omega
  · rw [if_neg (by decide), if_pos rfl, List.length_cons]
    have := dd_short (n := n.toNat) (by omega) (by omega)
    simp; omega
  · rw [if_neg (by decide), if_neg (by decide), if_pos rfl]
    have h4 := ih x (by simp) (by omega)
    have h5 := ih y (by simp) (by omega)
    simp
    omega
  · rw [if_neg (by decide), if_neg (by decide), if_neg (by decide)]
    have h4 := ih x (by simp) (by omega)
    have := dd_short (n := n.toNat) (by omega) (by omega)
    simp
    omega
end Tr
end Go.Proofs.YtoaccmblaifnmaaDoor
namespace Go.Proofs.YtoaccmblaifnmaaDoor
open Tr
open Lib (decDigits)
namespace Ps
open Dg (rl dv isD)
/-- how many digits a number has that begins here (none: 0) -/
def dc (l : List UInt8) : Nat := if l.head? = some 48 then 0 else min 6 (rl l)
/-- the number that begins here -/
def nv (l : List UInt8) : Nat := dv (l.take (dc l))
/-- how much of t stands here -/
def mt : List UInt8 → List UInt8 → Nat
  | a :: t, b :: l => if a = b then mt t l + 1 else 0
  | _, _ => 0
/-- " x " -/
def sx : List UInt8 := [32, 120, 32]
/-- an order that begins here: what it is and how long; or none, and the place where it doesn't fit -/
def po : Nat → List UInt8 → Option Tr × Nat
  | 0, _ => (none, 0)
  | _ + 1, [] => (none, 0)
  | m + 1, b :: r =>
    if b = 100 ∨ b = 102 then (if dc r = 0 then (none, 1) else (some ⟨(if b = 100 then 1 else 2), nv r, []⟩, 1 + dc r))
    else if b = 40 then
      (match po m r with
      | (none, c) => (none, 1 + c)
      | (some x, c) => if mt sx (r.drop c) < 3 then (none, 1 + (c + mt sx (r.drop c))) else
        (match po m (r.drop (c + 3)) with
        | (none, d) => (none, 1 + (c + 3 + d))
        | (some y, d) => if mt [41] (r.drop (c + 3 + d)) < 1 then (none, 1 + (c + 3 + d)) else (some ⟨3, 0, [x, y]⟩, 1 + (c + 3 + d + 1))))
    else if b = 98 then
      (if dc r = 0 then (none, 1) else if mt [40] (r.drop (dc r)) < 1 then (none, 1 + dc r) else
        (match po m (r.drop (dc r + 1)) with
        | (none, c) => (none, 1 + (dc r + 1 + c))
        | (some x, c) => if mt [41] (r.drop (dc r + 1 + c)) < 1 then (none, 1 + (dc r + 1 + c)) else (some ⟨4, nv r, [x]⟩, 1 + (dc r + 1 + c + 1))))
    else (none, 0)
/-- the order that begins at the place p of l -/
def pa (l : List UInt8) (p : Nat) : Option Tr × Nat := ((po (l.length + 1) (l.drop p)).1, p + (po (l.length + 1) (l.drop p)).2)
/-- how a reading goes on behind an order, with the orders that aren't ended: the last one first -/
def kont (l : List UInt8) : List Tr → Option Tr × Nat → Option Tr × Nat
  | [], r => r
  | _ :: _, (none, p) => (none, p)
  | f :: S, (some o, p) =>
    if f.k = 3 ∧ f.ks.length = 0 then
      (if mt sx (l.drop p) < 3 then (none, p + mt sx (l.drop p)) else
        (match pa l (p + 3) with
        | (none, q) => (none, q)
        | (some y, q) => if mt [41] (l.drop q) < 1 then (none, q) else kont l S (some ⟨3, f.n, [o, y]⟩, q + 1)))
    else if mt [41] (l.drop p) < 1 then (none, p) else kont l S (some ⟨f.k, f.n, f.ks ++ [o]⟩, p + 1)
/-- the whole reading: what it ends with -/
def rd (l : List UInt8) : Option Tr × Nat := kont l [] (pa l 0)
end Ps
end Go.Proofs.YtoaccmblaifnmaaDoor
namespace Go.Proofs.YtoaccmblaifnmaaDoor
open Tr
open Lib (decDigits)
namespace Ps
open Dg (rl dv isD tz)
theorem nd {c : UInt8} (h : isD c = false) (r : List UInt8) : ∀ b, (c :: r).head? = some b → isD b = false := fun b hb => by
  have e : c = b := by simpa using hb
  rw [← e]; exact h
end Ps
end Go.Proofs.YtoaccmblaifnmaaDoor
namespace Go.Proofs.YtoaccmblaifnmaaDoor
open Tr
open Lib (decDigits)
namespace Ps
open Dg (rl dv isD tz)
/-- how a reading of a beginning ends -/
def Cut (i : Nat) (full res : Option Tr × Nat) : Prop := (full.2 ≤ i → res = full) ∧ (i < full.2 → res.2 = i)
end Ps
end Go.Proofs.YtoaccmblaifnmaaDoor
namespace Go.Proofs.YtoaccmblaifnmaaDoor
open Go.RowKit

theorem err_cellsS : Tryd.prog.cellsOf 176 = 1 := by kernel_rfl
theorem err_cells9 : Tryd.prog.cellsOf 9 = 1 := by kernel_rfl
theorem err_star : "*" ++ "errors.errorString" = "*errors.errorString" := by decide
theorem err_row (u : TypeId) (h : Tryd.prog.typeName? 3 u = some "*errors.errorString") : u = 160 :=
  typeName_ptr_named (nm := "errors.errorString") (by rw [err_star]; kernel_rfl) (by kernel_rfl) (by decide) u (by rw [err_star]; exact h)

/-- The value that an error variable holds. -/
def ev (a : Addr) : Value := .iface 160 (.pointer (some a))
/-- An error's datum. -/
def errD (t : List UInt8) : DataW Unit := .iface "*errors.errorString" (.ptr (.agg [.lit (.string t)]))
/-- Variables (by number) and what they point to. -/
def Sent (W : World) : List Nat → List Addr → Prop
  | [], [] => True
  | g :: gs, a :: al => W.cell? ⟨g, 0, none⟩ = some (ev a) ∧ Sent W gs al
  | _, _ => False
set_option maxRecDepth 100000 in
theorem sents {W : World} : ∀ (l : List (String × List UInt8)) (gs : List Nat) (ps : List MemPlace),
    (l.map fun x => Tryd.prog.globalNamed x.1) = gs.map some → (∀ g ∈ gs, (Tryd.prog.globals[g]?).map (·.type) = some 31) →
    DataW.LaidVars Tryd.prog W (l.map fun x => (x.1, errD x.2)) ps →
    (∀ b off, MemPlace.cell b off ∈ ps → (∃ c t, W.heap[b]? = some (.cells c t (0, 0))) ∧ ∀ u v, W.cell? ⟨b, off, none⟩ = some (.iface u v) → Value.okWide Tryd.prog W .any 0 u v) →
    ∃ al : List Addr, Sent W gs al ∧ (∀ a ∈ al, MemPlace.cell a.block a.off ∈ ps) ∧ (ps.Nodup → al.Nodup)
  | [], gs, ps, hg, _, h, _ => by
    cases gs with
    | nil => exact ⟨[], trivial, fun a ha => (by cases ha), fun _ => List.nodup_nil⟩
    | cons g gs => simp at hg
  | (n, t) :: l, gs, ps, hg, ht, h, hr => by
    cases gs with
    | nil => simp at hg
    | cons g gs =>
      simp only [List.map_cons, List.cons.injEq] at hg
      obtain ⟨hg0, hg1⟩ := hg
      obtain ⟨g', t', cs, fuel, p, q, h1, h2, h3, h4, h5, rfl⟩ := h
      obtain rfl := Option.some.inj (hg0.symm.trans h1)
      obtain rfl := Option.some.inj ((ht g (by simp)).symm.trans h2)
      obtain ⟨l0⟩ := cs
      have hc0 : W.cell? ⟨g, 0, none⟩ = l0[0]? := by simpa using World.var?_cell h1 h3 0
      have ok0 : ∀ u v, l0 = [.iface u v] → Value.okWide Tryd.prog W .any 0 u v := fun u v e => by
        subst e
        exact (hr g 0 (by simp [MemPlace.row])).2 u v (by simpa using hc0)
      obtain ⟨a, s, rfl, hc, hs, hz, rfl⟩ := errorString_of_trod Tryd.underlying31 err_row Tryd.underlying160 Tryd.underlying176 rfl rfl Tryd.underlying9 err_cellsS err_cells9 h4 ok0
      obtain ⟨al, i1, i2, i3⟩ := sents l gs q hg1 (fun g hg => ht g (by simp [hg])) h5 (fun b off hb => hr b off (by simp [hb]))
      refine ⟨a :: al, ⟨by simpa [ev] using hc0, i1⟩, fun x hx => ?_, fun hn => ?_⟩
      · rcases List.mem_cons.1 hx with rfl | hx
        · simp [MemPlace.row]
        · have := i2 x hx; simp [this]
      · rw [List.nodup_append] at hn
        obtain ⟨hn1, hn2, hn3⟩ := hn
        refine List.nodup_cons.2 ⟨fun hx => ?_, i3 hn2⟩
        exact hn3 (.cell a.block a.off) (by simp [MemPlace.row]) _ (i2 a hx) rfl
theorem cell_lt {w : World} {a : Addr} {v : Value} (h : w.cell? a = some v) : a.block < w.heap.size := by
  unfold World.cell? at h
  cases e : w.heap[a.block]? with
  | none => rw [e] at h; cases h
  | some o => exact (Array.getElem?_eq_some_iff.1 e).1
theorem Sent.below {w w' : World} (hb : Below w.heap.size w w') : ∀ (gs : List Nat) (al : List Addr), Sent w gs al → Sent w' gs al
  | [], [], _ => trivial
  | g :: gs, a :: al, h => ⟨by rw [hb.cell (p := ⟨g, 0, none⟩) (cell_lt h.1)]; exact h.1, Sent.below hb gs al h.2⟩
  | [], _ :: _, h => h.elim
  | _ :: _, [], h => h.elim
end Go.Proofs.YtoaccmblaifnmaaDoor
