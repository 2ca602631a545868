/-
  Digits of a text. Plain.
-/
import Derived.Lib.ItoaNum
import Derived.Test.YtoaccmblaifnmaaDoorOd3
import Derived.Laws.IdiomStrings
namespace Go.Proofs.YtoaccmblaifnmaaDoor.Dg
def isD (b : UInt8) : Bool := decide (48 ≤ b.toNat ∧ b.toNat ≤ 57)
/-- how many digits the text begins with -/
def rl (l : List UInt8) : Nat := (l.takeWhile isD).length
theorem rl_le (l : List UInt8) : rl l ≤ l.length := by
  unfold rl
  induction l with
  | nil => simp
  | cons a l ih => simp only [List.takeWhile]; split <;> simp <;> omega
theorem rl_all (l : List UInt8) : ∀ b ∈ l.take (rl l), isD b = true := by
  induction l with
  | nil => simp
  | cons a l ih =>
    unfold rl
    simp only [List.takeWhile]
    split
    · rename_i h
      intro b hb
      simp only [List.length_cons, List.take_succ_cons, List.mem_cons] at hb
      rcases hb with rfl | hb
      · exact h
      · exact ih b hb
    · simp
theorem rl_eq : ∀ (l : List UInt8) (i : Nat), (∀ j, j < i → ∃ b, l[j]? = some b ∧ isD b = true) → (∀ b, l[i]? = some b → isD b = false) → rl l = i
  | [], i, h, _ => by
    cases i with
    | zero => rfl
    | succ i => obtain ⟨b, hb, _⟩ := h 0 (by omega); simp at hb
  | a :: l, i, h, h2 => by
    unfold rl
    simp only [List.takeWhile]
    cases i with
    | zero =>
      have := h2 a (by simp)
      rw [this]; rfl
    | succ i =>
      obtain ⟨b, hb, hd⟩ := h 0 (by omega)
      simp at hb
      subst hb
      rw [hd]
      simp only [List.length_cons]
      congr 1
      refine rl_eq l i (fun j hj => ?_) (fun b hb => ?_)
      · have := h (j + 1) (by omega)
        simpa using this
      · exact h2 b (by simpa using hb)
/-- the number that digits are -/
def dv (l : List UInt8) : Nat := l.foldl (fun n b => n * 10 + (b.toNat - 48)) 0
theorem dv_snoc (l : List UInt8) (b : UInt8) : dv (l ++ [b]) = dv l * 10 + (b.toNat - 48) := by simp [dv]
theorem dv_nil : dv [] = 0 := rfl
theorem take_snoc {l : List UInt8} {i : Nat} {b : UInt8} (h : l[i]? = some b) : l.take (i + 1) = l.take i ++ [b] := by
  rw [List.take_add_one, h]; rfl
theorem foldl_gen (l : List UInt8) : ∀ a : Nat, l.foldl (fun n b => n * 10 + (b.toNat - 48)) a = a * 10 ^ l.length + dv l := by
  induction l with
  | nil => intro a; simp [dv]
  | cons x l ih =>
    intro a
    have h1 := ih (a * 10 + (x.toNat - 48))
    have h2 := ih (0 * 10 + (x.toNat - 48))
    have h3 : dv (x :: l) = l.foldl (fun n b => n * 10 + (b.toNat - 48)) (0 * 10 + (x.toNat - 48)) := rfl
    simp only [List.foldl_cons, List.length_cons]
    rw [h1, h3, h2, Nat.pow_succ]
    generalize 10 ^ l.length = p
    rw [Nat.zero_mul, Nat.zero_add, Nat.add_mul, Nat.add_assoc, Nat.mul_assoc, Nat.mul_comm 10 p]
theorem dv_append (l m : List UInt8) : dv (l ++ m) = dv l * 10 ^ m.length + dv m := by
  have : dv (l ++ m) = m.foldl (fun n b => n * 10 + (b.toNat - 48)) (dv l) := by simp [dv]
  rw [this, foldl_gen]
theorem dv_lt (l : List UInt8) (h : ∀ b ∈ l, isD b = true) : dv l < 10 ^ l.length := by
  induction l with
  | nil => simp [dv]
  | cons x l ih =>
    have e : dv (x :: l) = dv [x] * 10 ^ l.length + dv l := dv_append [x] l
    have h1 := ih (fun b hb => h b (List.mem_cons_of_mem _ hb))
    have h2 : dv [x] ≤ 9 := by
      have := h x List.mem_cons_self
      simp [isD] at this
      simp [dv]; omega
    rw [e, List.length_cons, Nat.pow_succ]
    have := Nat.mul_le_mul_right (10 ^ l.length) h2
    omega
/-- a first digit that isn't nought -/
theorem dv_ge (x : UInt8) (l : List UInt8) (h : 49 ≤ x.toNat) : 10 ^ l.length ≤ dv (x :: l) := by
  have e : dv (x :: l) = dv [x] * 10 ^ l.length + dv l := dv_append [x] l
  have h2 : 1 ≤ dv [x] := by simp [dv]; omega
  rw [e]
  have := Nat.mul_le_mul_right (10 ^ l.length) h2
  omega
/-- without the noughts ahead -/
def tz : List UInt8 → List UInt8
  | [] => []
  | x :: l => if x.toNat = 48 then tz l else x :: l
theorem tz_dv (l : List UInt8) : dv (tz l) = dv l := by
  induction l with
  | nil => rfl
  | cons x l ih =>
    unfold tz
    split
    · rename_i h
      have e : dv (x :: l) = dv [x] * 10 ^ l.length + dv l := dv_append [x] l
      rw [ih, e]
      have : dv [x] = 0 := by simp [dv]; omega
      rw [this]; simp
    · rfl
theorem tz_mem {l : List UInt8} {b : UInt8} (h : b ∈ tz l) : b ∈ l := by
  induction l with
  | nil => simp [tz] at h
  | cons x l ih =>
    unfold tz at h
    split at h
    · exact List.mem_cons_of_mem _ (ih h)
    · exact h
theorem tz_len (l : List UInt8) : (tz l).length ≤ l.length := by
  induction l with
  | nil => simp [tz]
  | cons x l ih => unfold tz; split <;> simp <;> omega
theorem tz_ge (l : List UInt8) (hd : ∀ b ∈ l, isD b = true) (h : tz l ≠ []) : 10 ^ ((tz l).length - 1) ≤ dv l := by
  rw [← tz_dv]
  induction l with
  | nil => exact absurd rfl h
  | cons x l ih =>
    unfold tz at h ⊢
    split
    · rename_i hx
      rw [if_pos hx] at h
      exact ih (fun b hb => hd b (List.mem_cons_of_mem _ hb)) h
    · rename_i hx
      have := hd x List.mem_cons_self
      simp [isD] at this
      rw [List.length_cons, Nat.add_sub_cancel]
      exact dv_ge x l (by omega)
theorem tz_zero (l : List UInt8) (hd : ∀ b ∈ l, isD b = true) : tz l = [] ↔ dv l = 0 := by
  constructor
  · intro h; rw [← tz_dv, h]; rfl
  · intro h
    apply Classical.byContradiction
    intro hne
    have := tz_ge l hd hne
    have := Nat.pow_pos (n := (tz l).length - 1) (show 0 < 10 by decide)
    omega
end Go.Proofs.YtoaccmblaifnmaaDoor.Dg
/-
  Decimal digits of a number, there and back; noughts at the end. Plain.
-/
namespace Go.Proofs.YtoaccmblaifnmaaDoor.Dg
open Go.Lib (decDigits)
theorem dig_byte {d : Nat} (h : d < 10) : (UInt8.ofNat (48 + d)).toNat = 48 + d := by
  rw [UInt8.toNat_ofNat']; omega
theorem dd_small {u : Nat} (h : u < 10) : decDigits u = [UInt8.ofNat (48 + u)] := by rw [decDigits, dif_pos h]
theorem dd_step {u : Nat} (h : ¬ u < 10) : decDigits u = decDigits (u / 10) ++ [UInt8.ofNat (48 + u % 10)] := by rw [decDigits, dif_neg h]
theorem dd_dv (u : Nat) : dv (decDigits u) = u := by
  induction u using Nat.strongRecOn with
  | _ u ih =>
    by_cases h : u < 10
    · rw [dd_small h]
      show 0 * 10 + ((UInt8.ofNat (48 + u)).toNat - 48) = u
      rw [dig_byte h]; omega
    · rw [dd_step h, dv_snoc, ih (u / 10) (by omega), dig_byte (by omega)]; omega
theorem dd_all (u : Nat) : ∀ b ∈ decDigits u, isD b = true := by
  induction u using Nat.strongRecOn with
  | _ u ih =>
    have key : ∀ d, d < 10 → isD (UInt8.ofNat (48 + d)) = true := fun d hd => by
      unfold isD; rw [dig_byte hd]; exact decide_eq_true ⟨by omega, by omega⟩
    by_cases h : u < 10
    · rw [dd_small h]
      intro b hb
      rw [List.mem_singleton.1 hb]; exact key u h
    · rw [dd_step h]
      intro b hb
      rcases List.mem_append.1 hb with hb | hb
      · exact ih (u / 10) (by omega) b hb
      · rw [List.mem_singleton.1 hb]; exact key _ (by omega)
theorem dd_ne (u : Nat) : decDigits u ≠ [] := by
  by_cases h : u < 10
  · rw [dd_small h]; simp
  · rw [dd_step h]; simp
theorem tz_app {l m : List UInt8} (h : tz l = l) (hl : l ≠ []) : tz (l ++ m) = l ++ m := by
  cases l with
  | nil => exact absurd rfl hl
  | cons x l =>
    show (if x.toNat = 48 then tz (l ++ m) else x :: (l ++ m)) = x :: (l ++ m)
    by_cases hx : x.toNat = 48
    · exfalso
      have h2 : (if x.toNat = 48 then tz l else x :: l) = x :: l := h
      rw [if_pos hx] at h2
      have := tz_len l
      rw [h2] at this
      simp at this
      omega
    · rw [if_neg hx]
theorem dd_tz {u : Nat} (h0 : 0 < u) : tz (decDigits u) = decDigits u := by
  induction u using Nat.strongRecOn with
  | _ u ih =>
    by_cases h : u < 10
    · rw [dd_small h]
      show (if (UInt8.ofNat (48 + u)).toNat = 48 then tz [] else [UInt8.ofNat (48 + u)]) = _
      rw [if_neg (by rw [dig_byte h]; omega)]
    · rw [dd_step h]
      exact tz_app (ih (u / 10) (by omega) (by omega)) (dd_ne _)
theorem dd_len {u : Nat} (h0 : 0 < u) : 10 ^ ((decDigits u).length - 1) ≤ u ∧ u < 10 ^ (decDigits u).length ∧ 1 ≤ (decDigits u).length := by
  have h1 := tz_ge (decDigits u) (dd_all u) (by rw [dd_tz h0]; exact dd_ne u)
  rw [dd_tz h0, dd_dv] at h1
  have h2 := dv_lt (decDigits u) (dd_all u)
  rw [dd_dv] at h2
  refine ⟨h1, h2, ?_⟩
  exact List.length_pos_iff.2 (dd_ne u)
theorem byte_of {b : UInt8} (h : isD b = true) : b = UInt8.ofNat (48 + (b.toNat - 48)) := by
  unfold isD at h
  have := of_decide_eq_true h
  apply UInt8.toNat_inj.1
  rw [dig_byte (by omega)]
  omega
/-- digits without a nought ahead are the number's -/
theorem dd_uniq : ∀ (n : Nat) (l : List UInt8), l.length = n → (∀ b ∈ l, isD b = true) → tz l = l → l ≠ [] → l = decDigits (dv l) := by
  intro n
  induction n with
  | zero => intro l hl _ _ h; exact absurd (List.length_eq_zero_iff.1 hl) h
  | succ n ih =>
    intro l hl hd ht hne
    rcases List.eq_nil_or_concat l with rfl | ⟨m, b, rfl⟩
    · exact absurd rfl hne
    · rw [List.concat_eq_append] at *
      have hb : isD b = true := hd b (by simp)
      have hb2 := of_decide_eq_true hb
      by_cases hm : m = []
      · subst hm
        have e : dv ([] ++ [b]) = b.toNat - 48 := by rw [dv_snoc, dv_nil]; omega
        rw [e, dd_small (by omega), ← byte_of hb]; rfl
      · have htm : tz m = m := by
          cases m with
          | nil => exact absurd rfl hm
          | cons x m =>
            have h2 : (if x.toNat = 48 then tz (m ++ [b]) else x :: (m ++ [b])) = x :: (m ++ [b]) := ht
            show (if x.toNat = 48 then tz m else x :: m) = x :: m
            by_cases hx : x.toNat = 48
            · exfalso
              rw [if_pos hx] at h2
              have := tz_len (m ++ [b])
              rw [h2] at this
              simp at this
              omega
            · rw [if_neg hx]
        have hlm : m.length = n := by simp at hl; exact hl
        have e1 := ih m hlm (fun c hc => hd c (by simp [hc])) htm hm
        have e2 : dv (m ++ [b]) = dv m * 10 + (b.toNat - 48) := dv_snoc m b
        have hpos : 0 < dv m := by
          apply Nat.pos_of_ne_zero
          intro h0
          have := (tz_zero m (fun c hc => hd c (by simp [hc]))).2 h0
          rw [htm] at this; exact hm this
        rw [e2, dd_step (by omega), show (dv m * 10 + (b.toNat - 48)) / 10 = dv m by omega, show (dv m * 10 + (b.toNat - 48)) % 10 = b.toNat - 48 by omega, ← e1, ← byte_of hb]
theorem dd_mul {u : Nat} (h0 : 0 < u) : ∀ j, decDigits (u * 10 ^ j) = decDigits u ++ List.replicate j 48 := by
  intro j
  induction j with
  | zero => simp
  | succ j ih =>
    have hp : 0 < u * 10 ^ j := Nat.mul_pos h0 (Nat.pow_pos (by decide))
    rw [Nat.pow_succ, ← Nat.mul_assoc, dd_step (by omega), Nat.mul_div_cancel _ (by decide), Nat.mul_mod_left, ih, List.replicate_succ', List.append_assoc]
    rfl
/-- without noughts at the end -/
def rz' (l : List UInt8) : List UInt8 := (tz l.reverse).reverse
theorem rz_zeros (l : List UInt8) : ∀ j, rz' (l ++ List.replicate j 48) = rz' l := by
  intro j
  induction j with
  | zero => simp
  | succ j ih =>
    rw [← ih]
    unfold rz'
    rw [List.replicate_succ', ← List.append_assoc, List.reverse_append]
    show (tz (48 :: (l ++ List.replicate j 48).reverse)).reverse = _
    have h48 : (48 : UInt8).toNat = 48 := by decide
    conv => lhs; unfold tz; rw [if_pos h48]
theorem tz_ne {l : List UInt8} (h : ∃ b ∈ l, b.toNat ≠ 48) : tz l ≠ [] := by
  induction l with
  | nil => obtain ⟨b, hb, _⟩ := h; cases hb
  | cons x l ih =>
    unfold tz
    by_cases hx : x.toNat = 48
    · rw [if_pos hx]
      obtain ⟨b, hb, hn⟩ := h
      rcases List.mem_cons.1 hb with e | e
      · rw [e] at hn; exact absurd hx hn
      · exact ih ⟨b, e, hn⟩
    · rw [if_neg hx]; simp
theorem rz_ne {u : Nat} (h0 : 0 < u) : rz' (decDigits u) ≠ [] := by
  unfold rz'
  intro h
  rw [List.reverse_eq_nil_iff] at h
  refine tz_ne ?_ h
  have ht := dd_tz h0
  have hne := dd_ne u
  generalize decDigits u = l at *
  cases l with
  | nil => exact absurd rfl hne
  | cons x l =>
    refine ⟨x, by simp, fun hx => ?_⟩
    have h2 : (if x.toNat = 48 then tz l else x :: l) = x :: l := ht
    rw [if_pos hx] at h2
    have := tz_len l
    rw [h2] at this
    simp at this
    omega
theorem rz_len (l : List UInt8) : (rz' l).length ≤ l.length := by
  unfold rz'
  have := tz_len l.reverse
  simp at this ⊢
  exact this
end Go.Proofs.YtoaccmblaifnmaaDoor.Dg
/-
  The document's digits, text, Text.
-/
namespace Go.Proofs.YtoaccmblaifnmaaDoor
open Flo Go.RowKit Tr
open Lib (decDigits)
/-- a text by its signs -/
def Bt (l : List UInt8) : ByteArray := ⟨l.toArray⟩
theorem Bt_size (l : List UInt8) : (Bt l).size = l.length := by simp [Bt, ByteArray.size]
theorem Bt_data (l : List UInt8) : (Bt l).data.toList = l := by simp [Bt]
theorem Bt_of (s : ByteArray) : s = Bt s.data.toList := by simp [Bt]
theorem Bt_append (l m : List UInt8) : Bt l ++ Bt m = Bt (l ++ m) := by
  unfold Bt
  apply ByteArray.ext
  simp
theorem Bt_inj {l m : List UInt8} (h : Bt l = Bt m) : l = m := by rw [← Bt_data l, h, Bt_data]
set_option maxHeartbeats 1000000 in
theorem rdigits_c (n : Nat) (w : World) (h0 : 0 < n) (h1 : n ≤ 16384) :
    Calls Tryd.prog 91 #[.int .i64 (n : Int)] w fun e w' => e = .returned (.string (Bt (decDigits n))) ∧ Below w.heap.size w w' := by
  have hLen : Hid ((decDigits n).length ≤ 100) := by
    have h := (Dg.dd_len h0).1
    show _ ≤ _
    by_cases hh : (decDigits n).length ≤ 100
    · exact hh
    · have h2 : 10 ^ 99 ≤ 10 ^ ((decDigits n).length - 1) := Nat.pow_le_pow_right (by decide) (by omega)
      have h3 : (16384 : Nat) < 10 ^ 99 := by decide
      omega
  go_enter Tryd.func91, Tryd.ntmps91
  go_wp2_with fail
  go_loopw [0, 3] (fun sn ss wx => ∃ (c : Nat) (l : List UInt8), c ≤ 16384 ∧ sn = .int .i64 (c : Int) ∧ ss = .string (Bt l) ∧ Hid ((0 < c ∧ decDigits n = decDigits c ++ l) ∨ (c = 0 ∧ decDigits n = l)) ∧ Hid (Below w.heap.size w wx)) (fun sn _ _ => (intOf sn).toNat)
  case atStart => exact ⟨n, [], h1, rfl, rfl, .inl ⟨h0, by simp⟩, Below.refl _ _⟩
  case round =>
    obtain ⟨c, l, hc, rfl, rfl, hl, hb⟩ := hrel
    by_cases hlt : 0 < c
    · have hlt' : (c : Int) > 0 := by omega
      obtain ⟨M, hM, hM1⟩ : ∃ M : Nat, Hid (M = c % 10) ∧ (c : Int).tmod 10 = (M : Int) := ⟨c % 10, (rfl : _ = _), by rw [Int.tmod_eq_emod_of_nonneg (by omega)]; omega⟩
      obtain ⟨Q, hQ, hQ1⟩ : ∃ Q : Nat, Hid (Q = c / 10) ∧ (c : Int).tdiv 10 = (Q : Int) := ⟨c / 10, (rfl : _ = _), by rw [Int.tdiv_eq_ediv_of_nonneg (by omega)]; omega⟩
      have hM2 : M < 10 := by rw [hM.out]; omega
      have hcv : (convert 69 9 (.slice (some ⟨wr.heap.size, 0, none⟩) 1 1)).run Tryd.prog (wr.alloc (.cells #[.int .u8 (48 + (M : Int))] 5)) = .ok (.string (Bt [UInt8.ofNat (48 + M)])) (wr.alloc (.cells #[.int .u8 (48 + (M : Int))] 5)) := by
        have hc := run_convert_bytes_back (P := Tryd.prog) (wr.alloc (.cells #[.int .u8 (48 + (M : Int))] 5)) 69 9 5 ⟨wr.heap.size, 0, none⟩ 1 [UInt8.ofNat (48 + M)] Tryd.underlying69 Tryd.underlying5 Tryd.underlying9 (fun j hj => by
          have e : j = 0 := by simp at hj; omega
          subst e
          rw [show (⟨wr.heap.size, 0, none⟩ : Addr).add 0 = ⟨wr.heap.size, 0, none⟩ from rfl, cell_of_row _ _ _ _ _ _ (heap_alloc_new wr _)]
          simp only [List.getElem_cons_zero, Dg.dig_byte hM2]
          rfl)
        exact hc
      have hB : Hid (Below w.heap.size w (wr.alloc (.cells #[.int .u8 (48 + (M : Int))] 5))) := hb.out.alloc hb.out.size _
      have hnew : Hid ((0 < Q ∧ decDigits n = decDigits Q ++ ([UInt8.ofNat (48 + M)] ++ l)) ∨ (Q = 0 ∧ decDigits n = [UInt8.ofNat (48 + M)] ++ l)) := by
        rcases hl.out with ⟨_, h⟩ | ⟨h, _⟩
        · by_cases h10 : c < 10
          · right
            refine ⟨by rw [hQ.out]; omega, ?_⟩
            rw [h, Dg.dd_small h10, hM.out, Nat.mod_eq_of_lt h10]
          · left
            refine ⟨by rw [hQ.out]; omega, ?_⟩
            rw [h, Dg.dd_step h10, hM.out, hQ.out, List.append_assoc]
        · omega
      have happ : Hid (Bt [UInt8.ofNat (48 + M)] ++ Bt l = Bt ([UInt8.ofNat (48 + M)] ++ l)) := Bt_append _ l
      have hsz : (Bt [UInt8.ofNat (48 + M)]).size + (Bt l).size ≤ 200 := by
        rw [Bt_size, Bt_size]
        have h1 := hLen.out
        have h2 : l.length ≤ (decDigits n).length := by rcases hl.out with ⟨_, h⟩ | ⟨_, h⟩ <;> rw [h] <;> simp
        simp only [List.length_singleton]
        omega
      generalize Bt [UInt8.ofNat (48 + M)] = X at *
      have hsz2 : ¬ 9223372036854775807 < X.size + (Bt l).size := by omega
      have hQ3 : Q ≤ 16384 := by rw [hQ.out]; omega
      have hQ4 : Q < c := by rw [hQ.out]; omega
      go_wp2_with fail
      go_roundw
      case rel => exact ⟨Q, _, hQ3, rfl, by rw [happ.out], hnew, hB⟩
      case measure => simp [intOf]; omega
    · have hlt' : decide ((c : Int) > 0) = false := decide_eq_false (by omega)
      have hfin : Hid (l = decDigits n) := by
        rcases hl.out with ⟨h, _⟩ | ⟨_, h⟩
        · omega
        · exact h.symm
      go_wp2_with fail
      go_ret
      exact ⟨by rw [← hfin.out]; rfl, hb.out⟩
namespace Tr
/-- the text, out of the Kids' texts -/
def txc (k n : Int) (ts : List (List UInt8)) : List UInt8 :=
  if k = 1 then 100 :: decDigits n.toNat
  else if k = 2 then 102 :: decDigits n.toNat
  else if k = 3 then 40 :: (ts.getD 0 [] ++ ([32, 120, 32] ++ (ts.getD 1 [] ++ [41])))
  else 98 :: (decDigits n.toNat ++ (40 :: (ts.getD 0 [] ++ [41])))
def tx : Tr → List UInt8
  | ⟨k, n, ks⟩ => txc k n (ks.map tx)
theorem tx_eq (k n : Int) (ks : List Tr) : tx ⟨k, n, ks⟩ = txc k n (ks.map tx) := by rw [tx]
/-- what a good order is -/
theorem ln_inv {k n : Int} {ks : List Tr} (h : 0 < ln ⟨k, n, ks⟩) :
    (k = 1 ∧ (1 ≤ n ∧ n ≤ 64) ∧ ks = []) ∨ (k = 2 ∧ (2 ≤ n ∧ n ≤ 5) ∧ ks = []) ∨ (k = 3 ∧ n = 0 ∧ ∃ x y, ks = [x, y] ∧ 2 ≤ ln x ∧ 2 ≤ ln y ∧ ln x * ln y = ln ⟨k, n, ks⟩) ∨ (k = 4 ∧ (2 ≤ n ∧ n ≤ 8192) ∧ ∃ x, ks = [x] ∧ 2 * n - 1 ≤ (ln x : Int)) := by
  rw [ln_eq] at h ⊢
  unfold lnc at h ⊢
  by_cases h1 : k = 1
  · left
    rw [if_pos h1] at h
    by_cases h2 : 1 ≤ n ∧ n ≤ 64 ∧ ks.map ln = []
    · exact ⟨h1, ⟨h2.1, h2.2.1⟩, List.map_eq_nil_iff.1 h2.2.2⟩
    · rw [if_neg h2] at h; omega
  · right
    rw [if_neg h1] at h ⊢
    by_cases h2 : k = 2
    · left
      rw [if_pos h2] at h
      by_cases h3 : 2 ≤ n ∧ n ≤ 5 ∧ ks.map ln = []
      · exact ⟨h2, ⟨h3.1, h3.2.1⟩, List.map_eq_nil_iff.1 h3.2.2⟩
      · rw [if_neg h3] at h; omega
    · right
      rw [if_neg h2] at h ⊢
      by_cases h3 : k = 3
      · left
        rw [if_pos h3] at h ⊢
        by_cases h4 : n = 0
        · rw [if_pos h4] at h ⊢
          by_cases h5 : ks.length = 2
          · obtain ⟨x, y, rfl⟩ := len2 h5
            have e : tms ([x, y].map ln) = if 2 ≤ ln x ∧ 2 ≤ ln y ∧ ln x ≤ 16384 / ln y then ln x * ln y else 0 := rfl
            rw [e] at h ⊢
            by_cases h6 : 2 ≤ ln x ∧ 2 ≤ ln y ∧ ln x ≤ 16384 / ln y
            · rw [if_pos h6]
              exact ⟨h3, h4, x, y, rfl, h6.1, h6.2.1, rfl⟩
            · rw [if_neg h6] at h; omega
          · rw [tms_ne (by rw [List.length_map]; exact h5)] at h; omega
        · rw [if_neg h4] at h; omega
      · right
        rw [if_neg h3] at h
        by_cases h4 : k = 4
        · rw [if_pos h4] at h
          by_cases h5 : 2 ≤ n ∧ n ≤ 8192
          · rw [if_pos h5] at h
            by_cases h6 : ks.length = 1
            · obtain ⟨x, rfl⟩ := len1 h6
              have e : blu n ([x].map ln) = if 2 * n - 1 ≤ (ln x : Int) then n.toNat else 0 := rfl
              rw [e] at h
              by_cases h7 : 2 * n - 1 ≤ (ln x : Int)
              · exact ⟨h4, h5, x, rfl, h7⟩
              · rw [if_neg h7] at h; omega
            · rw [blu_ne (by rw [List.length_map]; exact h6)] at h; omega
          · rw [if_neg h5] at h; omega
        · rw [if_neg h4] at h; omega
theorem dd_short {n : Nat} (h0 : 0 < n) (h1 : n ≤ 16384) : (decDigits n).length ≤ 10 := by
  have h := (Dg.dd_len h0).1
  by_cases hh : (decDigits n).length ≤ 10
  · exact hh
  · have h2 : 10 ^ 10 ≤ 10 ^ ((decDigits n).length - 1) := Nat.pow_le_pow_right (by decide) (by omega)
    have h3 : (16384 : Nat) < 10 ^ 10 := by decide
    omega
theorem tx_len (t : Tr) : 0 < ln t → (tx t).length ≤ 20 * pt t := by
  refine ind (P := fun t => 0 < ln t → (tx t).length ≤ 20 * pt t) (fun k n ks ih h => ?_) t
  rw [tx_eq, pt_eq]
  unfold txc
  rcases ln_inv h with ⟨rfl, h2, rfl⟩ | ⟨rfl, h2, rfl⟩ | ⟨rfl, rfl, x, y, rfl, h2, h3, _⟩ | ⟨rfl, h2, x, rfl, h3⟩
  · rw [if_pos rfl, List.length_cons]
    have := dd_short (n := n.toNat) (by omega) (by omega)
    simp; omega
  · rw [if_neg (by decide), if_pos rfl, List.length_cons]
    have := dd_short (n := n.toNat) (by omega) (by omega)
    simp; omega
  · rw [if_neg (by decide), if_neg (by decide), if_pos rfl]
    have h4 := ih x (by simp) (by omega)
    have h5 := ih y (by simp) (by omega)
    simp
    omega
  · rw [if_neg (by decide), if_neg (by decide), if_neg (by decide)]
    have h4 := ih x (by simp) (by omega)
    have := dd_short (n := n.toNat) (by omega) (by omega)
    simp
    omega
end Tr
end Go.Proofs.YtoaccmblaifnmaaDoor
/-
  Layer 12, plain: the form of an order's text: what is read from a place on, the place where it doesn't fit; a reading with the orders that aren't ended in a list.
-/
namespace Go.Proofs.YtoaccmblaifnmaaDoor
open Tr
open Lib (decDigits)
namespace Ps
open Dg (rl dv isD)
/-- how many digits a number has that begins here (none: 0) -/
def dc (l : List UInt8) : Nat := if l.head? = some 48 then 0 else min 6 (rl l)
/-- the number that begins here -/
def nv (l : List UInt8) : Nat := dv (l.take (dc l))
/-- how much of t stands here -/
def mt : List UInt8 → List UInt8 → Nat
  | a :: t, b :: l => if a = b then mt t l + 1 else 0
  | _, _ => 0
theorem mt_le1 : ∀ (t l : List UInt8), mt t l ≤ t.length
  | [], _ => by simp [mt]
  | a :: t, [] => by simp [mt]
  | a :: t, b :: l => by
    unfold mt
    split
    · have := mt_le1 t l; simp; omega
    · simp
theorem mt_le2 : ∀ (t l : List UInt8), mt t l ≤ l.length
  | [], _ => by simp [mt]
  | a :: t, [] => by simp [mt]
  | a :: t, b :: l => by
    unfold mt
    split
    · have := mt_le2 t l; simp; omega
    · simp
theorem dc_le (l : List UInt8) : dc l ≤ l.length := by
  unfold dc
  split
  · omega
  · have := Dg.rl_le l; omega
/-- " x " -/
def sx : List UInt8 := [32, 120, 32]
/-- an order that begins here: what it is and how long; or none, and the place where it doesn't fit -/
def po : Nat → List UInt8 → Option Tr × Nat
  | 0, _ => (none, 0)
  | _ + 1, [] => (none, 0)
  | m + 1, b :: r =>
    if b = 100 ∨ b = 102 then (if dc r = 0 then (none, 1) else (some ⟨(if b = 100 then 1 else 2), nv r, []⟩, 1 + dc r))
    else if b = 40 then
      (match po m r with
      | (none, c) => (none, 1 + c)
      | (some x, c) => if mt sx (r.drop c) < 3 then (none, 1 + (c + mt sx (r.drop c))) else
        (match po m (r.drop (c + 3)) with
        | (none, d) => (none, 1 + (c + 3 + d))
        | (some y, d) => if mt [41] (r.drop (c + 3 + d)) < 1 then (none, 1 + (c + 3 + d)) else (some ⟨3, 0, [x, y]⟩, 1 + (c + 3 + d + 1))))
    else if b = 98 then
      (if dc r = 0 then (none, 1) else if mt [40] (r.drop (dc r)) < 1 then (none, 1 + dc r) else
        (match po m (r.drop (dc r + 1)) with
        | (none, c) => (none, 1 + (dc r + 1 + c))
        | (some x, c) => if mt [41] (r.drop (dc r + 1 + c)) < 1 then (none, 1 + (dc r + 1 + c)) else (some ⟨4, nv r, [x]⟩, 1 + (dc r + 1 + c + 1))))
    else (none, 0)
theorem mt_drop {t l : List UInt8} {c : Nat} (h : ¬ mt t (l.drop c) < t.length) : t.length ≤ l.length - c := by
  have := mt_le2 t (l.drop c)
  rw [List.length_drop] at this
  omega
theorem po_le : ∀ (m : Nat) (l : List UInt8), (po m l).2 ≤ l.length
  | 0, l => Nat.zero_le _
  | _ + 1, [] => Nat.zero_le _
  | m + 1, b :: r => by
    have hd := dc_le r
    unfold po
    rw [List.length_cons]
    split
    · split <;> simp <;> omega
    split
    · have h1 := po_le m r
      generalize po m r = P at *
      obtain ⟨o, c⟩ := P
      cases o with
      | none => simp only; simp only at h1; omega
      | some x =>
        simp only at h1 ⊢
        have h2 := mt_le2 sx (r.drop c)
        rw [List.length_drop] at h2
        split
        · simp only; omega
        · rename_i h3
          have h4 := po_le m (r.drop (c + 3))
          rw [List.length_drop] at h4
          have h5 : 3 ≤ r.length - c := by have : mt sx (r.drop c) ≤ 3 := mt_le1 sx _; omega
          generalize po m (r.drop (c + 3)) = Q at *
          obtain ⟨o2, d⟩ := Q
          cases o2 with
          | none => simp only; simp only at h4; omega
          | some y =>
            simp only at h4 ⊢
            have h6 := mt_le2 [41] (r.drop (c + 3 + d))
            rw [List.length_drop] at h6
            split
            · simp only; omega
            · simp only; omega
    split
    · split
      · simp only; omega
      split
      · simp only; omega
      · rename_i h3
        have h2 := mt_le2 [40] (r.drop (dc r))
        rw [List.length_drop] at h2
        have h4 := po_le m (r.drop (dc r + 1))
        rw [List.length_drop] at h4
        generalize po m (r.drop (dc r + 1)) = Q at *
        obtain ⟨o2, d⟩ := Q
        cases o2 with
        | none => simp only; simp only at h4; omega
        | some y =>
          simp only at h4 ⊢
          have h6 := mt_le2 [41] (r.drop (dc r + 1 + d))
          rw [List.length_drop] at h6
          split
          · simp only; omega
          · simp only; omega
    · simp only; omega
/-- more fuel than signs changes nothing -/
theorem po_fuel : ∀ (m m' : Nat) (l : List UInt8), l.length < m → l.length < m' → po m l = po m' l
  | 0, _, _, h, _ => by omega
  | _, 0, _, _, h => by omega
  | m + 1, m' + 1, [], _, _ => rfl
  | m + 1, m' + 1, b :: r, h1, h2 => by
    rw [List.length_cons] at h1 h2
    have e1 := po_fuel m m' r (by omega) (by omega)
    have e2 : ∀ c, po m (r.drop c) = po m' (r.drop c) := fun c => po_fuel m m' (r.drop c) (by rw [List.length_drop]; omega) (by rw [List.length_drop]; omega)
    unfold po
    simp only [e1, e2]
/-- the order that begins at the place p of l -/
def pa (l : List UInt8) (p : Nat) : Option Tr × Nat := ((po (l.length + 1) (l.drop p)).1, p + (po (l.length + 1) (l.drop p)).2)
/-- how a reading goes on behind an order, with the orders that aren't ended: the last one first -/
def kont (l : List UInt8) : List Tr → Option Tr × Nat → Option Tr × Nat
  | [], r => r
  | _ :: _, (none, p) => (none, p)
  | f :: S, (some o, p) =>
    if f.k = 3 ∧ f.ks.length = 0 then
      (if mt sx (l.drop p) < 3 then (none, p + mt sx (l.drop p)) else
        (match pa l (p + 3) with
        | (none, q) => (none, q)
        | (some y, q) => if mt [41] (l.drop q) < 1 then (none, q) else kont l S (some ⟨3, f.n, [o, y]⟩, q + 1)))
    else if mt [41] (l.drop p) < 1 then (none, p) else kont l S (some ⟨f.k, f.n, f.ks ++ [o]⟩, p + 1)
theorem kont_none (l : List UInt8) (S : List Tr) (p : Nat) : kont l S (none, p) = (none, p) := by cases S <;> rfl
theorem drop_at {l : List UInt8} {p : Nat} {b : UInt8} (h : l[p]? = some b) : l.drop p = b :: l.drop (p + 1) := by
  obtain ⟨hp, e⟩ := List.getElem?_eq_some_iff.1 h
  rw [← e]; exact List.drop_eq_getElem_cons hp
theorem po_at (l : List UInt8) {p m : Nat} (h : 0 < p) (hm : l.length ≤ m) : po m (l.drop p) = po (l.length + 1) (l.drop p) := by
  by_cases h0 : l.length = 0
  · have e : l = [] := List.length_eq_zero_iff.1 h0
    subst e
    cases m <;> simp [po]
  · exact po_fuel _ _ _ (by rw [List.length_drop]; omega) (by rw [List.length_drop]; omega)
theorem pa_none {l : List UInt8} {p : Nat} (h : l[p]? = none) : pa l p = (none, p) := by
  have e : l.drop p = [] := List.drop_eq_nil_of_le (List.getElem?_eq_none_iff.1 h)
  unfold pa
  rw [e]; rfl
theorem pa_leaf {l : List UInt8} {p : Nat} {b : UInt8} (h : l[p]? = some b) (hb : b = 100 ∨ b = 102) : pa l p = if dc (l.drop (p + 1)) = 0 then (none, p + 1) else (some ⟨(if b = 100 then 1 else 2), nv (l.drop (p + 1)), []⟩, p + (1 + dc (l.drop (p + 1)))) := by
  unfold pa
  rw [drop_at h, po, if_pos hb]
  split <;> rfl
theorem pa_bad {l : List UInt8} {p : Nat} {b : UInt8} (h : l[p]? = some b) (h1 : ¬ (b = 100 ∨ b = 102)) (h2 : b ≠ 40) (h3 : b ≠ 98) : pa l p = (none, p) := by
  unfold pa
  rw [drop_at h, po, if_neg h1, if_neg h2, if_neg h3]
  rfl
theorem k_times {l : List UInt8} {p : Nat} (S : List Tr) (h : l[p]? = some 40) : kont l S (pa l p) = kont l (⟨3, 0, []⟩ :: S) (pa l (p + 1)) := by
  have e0 : pa l (p + 1) = ((po l.length (l.drop (p + 1))).1, p + 1 + (po l.length (l.drop (p + 1))).2) := by unfold pa; rw [po_at l (Nat.succ_pos p) (Nat.le_refl _)]
  have e3 : ∀ c, pa l (p + 1 + c) = ((po l.length (l.drop (p + 1 + c))).1, p + 1 + c + (po l.length (l.drop (p + 1 + c))).2) := fun c => by unfold pa; rw [po_at l (by omega) (Nat.le_refl _)]
  have e1 : pa l p = ((po (l.length + 1) (40 :: l.drop (p + 1))).1, p + (po (l.length + 1) (40 :: l.drop (p + 1))).2) := by unfold pa; rw [drop_at h]
  rw [e0, e1, po, if_neg (by decide), if_pos rfl]
  generalize po l.length (l.drop (p + 1)) = P
  obtain ⟨o, c⟩ := P
  cases o with
  | none => simp only [kont_none]; rw [Nat.add_assoc]
  | some x =>
    have ed : (l.drop (p + 1)).drop c = l.drop (p + 1 + c) := by rw [List.drop_drop]
    have ed3 : (l.drop (p + 1)).drop (c + 3) = l.drop (p + 1 + c + 3) := by rw [List.drop_drop]; congr 1
    simp only [kont, List.length_nil, and_self, if_true, ed, ed3]
    by_cases hm : mt sx (l.drop (p + 1 + c)) < 3
    · rw [if_pos hm, if_pos hm]
      simp only [kont_none]
      congr 1; omega
    · rw [if_neg hm, if_neg hm]
      have e4 := e3 (c + 3)
      rw [show p + 1 + (c + 3) = p + 1 + c + 3 by omega] at e4
      rw [e4]
      generalize po l.length (l.drop (p + 1 + c + 3)) = Q
      obtain ⟨o2, d⟩ := Q
      cases o2 with
      | none => simp only [kont_none]; congr 1; omega
      | some y =>
        have ed5 : (l.drop (p + 1)).drop (c + 3 + d) = l.drop (p + 1 + c + 3 + d) := by rw [List.drop_drop]; congr 1; omega
        simp only [ed5]
        by_cases hm2 : mt [41] (l.drop (p + 1 + c + 3 + d)) < 1
        · rw [if_pos hm2, if_pos hm2]
          simp only [kont_none]
          congr 1; omega
        · rw [if_neg hm2, if_neg hm2]
          simp only
          congr 2; omega
theorem k_shut {l : List UInt8} {p : Nat} (f : Tr) (S : List Tr) (o : Tr) (hf : ¬ (f.k = 3 ∧ f.ks.length = 0)) (h : ¬ mt [41] (l.drop p) < 1) : kont l (f :: S) (some o, p) = kont l S (some ⟨f.k, f.n, f.ks ++ [o]⟩, p + 1) := by
  simp only [kont]
  rw [if_neg hf, if_neg h]
theorem k_shut_bad {l : List UInt8} {p : Nat} (f : Tr) (S : List Tr) (o : Tr) (hf : ¬ (f.k = 3 ∧ f.ks.length = 0)) (h : mt [41] (l.drop p) < 1) : kont l (f :: S) (some o, p) = (none, p) := by
  simp only [kont]
  rw [if_neg hf, if_pos h]
theorem k_blue {l : List UInt8} {p : Nat} (S : List Tr) (h : l[p]? = some 98) (h1 : dc (l.drop (p + 1)) ≠ 0) (h2 : ¬ mt [40] (l.drop (p + 1 + dc (l.drop (p + 1)))) < 1) :
    kont l S (pa l p) = kont l (⟨4, nv (l.drop (p + 1)), []⟩ :: S) (pa l (p + 1 + dc (l.drop (p + 1)) + 1)) := by
  have e1 : pa l p = ((po (l.length + 1) (98 :: l.drop (p + 1))).1, p + (po (l.length + 1) (98 :: l.drop (p + 1))).2) := by unfold pa; rw [drop_at h]
  have e3 : ∀ c, pa l (p + 1 + c) = ((po l.length (l.drop (p + 1 + c))).1, p + 1 + c + (po l.length (l.drop (p + 1 + c))).2) := fun c => by unfold pa; rw [po_at l (by omega) (Nat.le_refl _)]
  rw [e1, po, if_neg (by decide), if_neg (by decide), if_pos rfl]
  generalize dc (l.drop (p + 1)) = c at *
  have e4 := e3 (c + 1)
  rw [show p + 1 + (c + 1) = p + 1 + c + 1 by omega] at e4
  have ed : (l.drop (p + 1)).drop c = l.drop (p + 1 + c) := by rw [List.drop_drop]
  have ed2 : (l.drop (p + 1)).drop (c + 1) = l.drop (p + 1 + c + 1) := by rw [List.drop_drop]; congr 1
  rw [if_neg h1, ed, if_neg h2, e4, ed2]
  generalize po l.length (l.drop (p + 1 + c + 1)) = Q
  obtain ⟨o, d⟩ := Q
  cases o with
  | none => simp only [kont_none]; congr 1; omega
  | some x =>
    have ed5 : (l.drop (p + 1)).drop (c + 1 + d) = l.drop (p + 1 + c + 1 + d) := by rw [List.drop_drop]; congr 1; omega
    have hf : ∀ n : Int, ¬ ((⟨4, n, []⟩ : Tr).k = 3 ∧ (⟨4, n, []⟩ : Tr).ks.length = 0) := fun n hh => absurd hh.1 (show ¬ ((4 : Int) = 3) by decide)
    by_cases hm2 : mt [41] (l.drop (p + 1 + c + 1 + d)) < 1
    · rw [k_shut_bad _ S x (hf _) hm2]
      simp only [ed5, if_pos hm2, kont_none]
      congr 1; omega
    · rw [k_shut _ S x (hf _) hm2]
      simp only [ed5, if_neg hm2, List.nil_append]
      congr 2; omega
theorem pa_blue0 {l : List UInt8} {p : Nat} (h : l[p]? = some 98) (h1 : dc (l.drop (p + 1)) = 0) : pa l p = (none, p + 1) := by
  unfold pa
  rw [drop_at h, po, if_neg (by decide), if_neg (by decide), if_pos rfl, if_pos h1]
theorem pa_blue1 {l : List UInt8} {p : Nat} (h : l[p]? = some 98) (h1 : dc (l.drop (p + 1)) ≠ 0) (h2 : mt [40] (l.drop (p + 1 + dc (l.drop (p + 1)))) < 1) : pa l p = (none, p + 1 + dc (l.drop (p + 1))) := by
  unfold pa
  rw [drop_at h, po, if_neg (by decide), if_neg (by decide), if_pos rfl, if_neg h1, List.drop_drop, if_pos h2, Nat.add_assoc]
theorem k_first {l : List UInt8} {p : Nat} (S : List Tr) (n : Int) (o : Tr) (h : ¬ mt sx (l.drop p) < 3) : kont l (⟨3, n, []⟩ :: S) (some o, p) = kont l (⟨3, n, [o]⟩ :: S) (pa l (p + 3)) := by
  simp only [kont, List.length_nil, and_self, if_true]
  rw [if_neg h]
  generalize pa l (p + 3) = Q
  obtain ⟨o2, q⟩ := Q
  cases o2 with
  | none => rfl
  | some y =>
    have hf : ¬ ((⟨3, n, [o]⟩ : Tr).k = 3 ∧ (⟨3, n, [o]⟩ : Tr).ks.length = 0) := fun hh => absurd hh.2 (show ¬ ((1 : Nat) = 0) by decide)
    by_cases hm2 : mt [41] (l.drop q) < 1
    · rw [k_shut_bad _ S y hf hm2]
      simp only [if_pos hm2]
    · rw [k_shut _ S y hf hm2]
      simp only [if_neg hm2]
      rfl
theorem k_first_bad {l : List UInt8} {p : Nat} (S : List Tr) (n : Int) (o : Tr) (h : mt sx (l.drop p) < 3) : kont l (⟨3, n, []⟩ :: S) (some o, p) = (none, p + mt sx (l.drop p)) := by
  simp only [kont, List.length_nil, and_self, if_true]
  rw [if_pos h]
/-- the whole reading: what it ends with -/
def rd (l : List UInt8) : Option Tr × Nat := kont l [] (pa l 0)
end Ps
end Go.Proofs.YtoaccmblaifnmaaDoor
