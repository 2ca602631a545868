/-
  Digits of a text. Plain.
-/
import Derived.Test.YtoojjefndkdnpaaGreatDoorNea
namespace Go.Proofs.YtoojjefndkdnpaaGreatDoor.Dg
def isD (b : UInt8) : Bool := decide (48 ≤ b.toNat ∧ b.toNat ≤ 57)
/-- how many digits the text begins with -/
def rl (l : List UInt8) : Nat := (l.takeWhile isD).length
theorem rl_le (l : List UInt8) : rl l ≤ l.length := by
  unfold rl
  induction l with
  | nil => simp
  | cons a l ih => simp only [List.takeWhile]; split <;> simp <;> omega
theorem rl_all (l : List UInt8) : ∀ b ∈ l.take (rl l), isD b = true := by
  induction l with
  | nil => simp
  | cons a l ih =>
    unfold rl
    simp only [List.takeWhile]
    split
    · rename_i h
      intro b hb
      simp only [List.length_cons, List.take_succ_cons, List.mem_cons] at hb
      rcases hb with rfl | hb
      · exact h
      · exact ih b hb
    · simp
theorem rl_eq : ∀ (l : List UInt8) (i : Nat), (∀ j, j < i → ∃ b, l[j]? = some b ∧ isD b = true) → (∀ b, l[i]? = some b → isD b = false) → rl l = i
  | [], i, h, _ => by
    cases i with
    | zero => rfl
    | succ i => obtain ⟨b, hb, _⟩ := h 0 (by omega); simp at hb
  | a :: l, i, h, h2 => by
    unfold rl
    simp only [List.takeWhile]
    cases i with
    | zero =>
      have := h2 a (by simp)
      rw [this]; rfl
    | succ i =>
      obtain ⟨b, hb, hd⟩ := h 0 (by omega)
      simp at hb
      subst hb
      rw [hd]
      simp only [List.length_cons]
      congr 1
      refine rl_eq l i (fun j hj => ?_) (fun b hb => ?_)
      · have := h (j + 1) (by omega)
        simpa using this
      · exact h2 b (by simpa using hb)
/-- the number that digits are -/
def dv (l : List UInt8) : Nat := l.foldl (fun n b => n * 10 + (b.toNat - 48)) 0
theorem dv_snoc (l : List UInt8) (b : UInt8) : dv (l ++ [b]) = dv l * 10 + (b.toNat - 48) := by simp [dv]
theorem dv_nil : dv [] = 0 := rfl
theorem take_snoc {l : List UInt8} {i : Nat} {b : UInt8} (h : l[i]? = some b) : l.take (i + 1) = l.take i ++ [b] := by
  rw [List.take_add_one, h]; rfl
theorem foldl_gen (l : List UInt8) : ∀ a : Nat, l.foldl (fun n b => n * 10 + (b.toNat - 48)) a = a * 10 ^ l.length + dv l := by
  induction l with
  | nil => intro a; simp [dv]
  | cons x l ih =>
    intro a
    have h1 := ih (a * 10 + (x.toNat - 48))
    have h2 := ih (0 * 10 + (x.toNat - 48))
    have h3 : dv (x :: l) = l.foldl (fun n b => n * 10 + (b.toNat - 48)) (0 * 10 + (x.toNat - 48)) := rfl
    simp only [List.foldl_cons, List.length_cons]
    rw [h1, h3, h2, Nat.pow_succ]
    generalize 10 ^ l.length = p
    rw [Nat.zero_mul, Nat.zero_add, Nat.add_mul, Nat.add_assoc, Nat.mul_assoc, Nat.mul_comm 10 p]
theorem dv_append (l m : List UInt8) : dv (l ++ m) = dv l * 10 ^ m.length + dv m := by
  have : dv (l ++ m) = m.foldl (fun n b => n * 10 + (b.toNat - 48)) (dv l) := by simp [dv]
  rw [this, foldl_gen]
theorem dv_lt (l : List UInt8) (h : ∀ b ∈ l, isD b = true) : dv l < 10 ^ l.length := by
  induction l with
  | nil => simp [dv]
  | cons x l ih =>
    have e : dv (x :: l) = dv [x] * 10 ^ l.length + dv l := dv_append [x] l
    have h1 := ih (fun b hb => h b (List.mem_cons_of_mem _ hb))
    have h2 : dv [x] ≤ 9 := by
      have := h x List.mem_cons_self
      simp [isD] at this
      simp [dv]; omega
    rw [e, List.length_cons, Nat.pow_succ]
    have := Nat.mul_le_mul_right (10 ^ l.length) h2
    omega
/-- a first digit that isn't nought -/
theorem dv_ge (x : UInt8) (l : List UInt8) (h : 49 ≤ x.toNat) : 10 ^ l.length ≤ dv (x :: l) := by
  have e : dv (x :: l) = dv [x] * 10 ^ l.length + dv l := dv_append [x] l
  have h2 : 1 ≤ dv [x] := by simp [dv]; omega
  rw [e]
  have := Nat.mul_le_mul_right (10 ^ l.length) h2
  omega
/-- without the noughts ahead -/
def tz : List UInt8 → List UInt8
  | [] => []
  | x :: l => if x.toNat = 48 then tz l else x :: l
theorem tz_dv (l : List UInt8) : dv (tz l) = dv l := by
  induction l with
  | nil => rfl
  | cons x l ih =>
    unfold tz
    split
    · rename_i h
      have e : dv (x :: l) = dv [x] * 10 ^ l.length + dv l := dv_append [x] l
      rw [ih, e]
      have : dv [x] = 0 := by simp [dv]; omega
      rw [this]; simp
    · rfl
theorem tz_mem {l : List UInt8} {b : UInt8} (h : b ∈ tz l) : b ∈ l := by
  induction l with
  | nil => simp [tz] at h
  | cons x l ih =>
    unfold tz at h
    split at h
    · exact List.mem_cons_of_mem _ (ih h)
    · exact h
theorem tz_len (l : List UInt8) : (tz l).length ≤ l.length := by
  induction l with
  | nil => simp [tz]
  | cons x l ih => unfold tz; split <;> simp <;> omega
theorem tz_ge (l : List UInt8) (hd : ∀ b ∈ l, isD b = true) (h : tz l ≠ []) : 10 ^ ((tz l).length - 1) ≤ dv l := by
  rw [← tz_dv]
  induction l with
  | nil => exact absurd rfl h
  | cons x l ih =>
    unfold tz at h ⊢
    split
    · rename_i hx
      rw [if_pos hx] at h
      exact ih (fun b hb => hd b (List.mem_cons_of_mem _ hb)) h
    · rename_i hx
      have := hd x List.mem_cons_self
      simp [isD] at this
      rw [List.length_cons, Nat.add_sub_cancel]
      exact dv_ge x l (by omega)
theorem tz_zero (l : List UInt8) (hd : ∀ b ∈ l, isD b = true) : tz l = [] ↔ dv l = 0 := by
  constructor
  · intro h; rw [← tz_dv, h]; rfl
  · intro h
    apply Classical.byContradiction
    intro hne
    have := tz_ge l hd hne
    have := Nat.pow_pos (n := (tz l).length - 1) (show 0 < 10 by decide)
    omega
end Go.Proofs.YtoojjefndkdnpaaGreatDoor.Dg
/-
  Digits of a text: cutDigits, naturalOfDigits.
-/
namespace Go.Proofs.YtoojjefndkdnpaaGreatDoor
open Flo Go.RowKit
theorem ba_get (s : ByteArray) (i : Nat) (h : i < s.size) : s.data.toList[i]? = some s[i] := by
  have h2 : i < s.data.toList.length := h
  rw [List.getElem?_eq_getElem h2]; rfl
theorem ba_none (s : ByteArray) (i : Nat) (h : s.size ≤ i) : s.data.toList[i]? = none := by
  have h2 : s.data.toList.length ≤ i := h
  exact List.getElem?_eq_none h2
set_option maxRecDepth 100000 in
set_option maxHeartbeats 400000 in
theorem cutDigits_c (s : ByteArray) (w : World) (hs : s.size ≤ 1000) :
    Calls Tryz.prog 43 #[.string s] w fun e w' => ∃ i : Nat, i ≤ s.size ∧ Hid (Dg.rl s.data.toList = i) ∧ e = .returned (.tuple #[.string (s.extract 0 i), .string (s.extract i s.size), .bool (decide (0 < i))]) ∧ ∃ q, w' = w.drewN q := by
  go_enter Tryz.func43, Tryz.ntmps43
  go_wp2
  go_loop [5] (fun si => ∃ i : Nat, i ≤ s.size ∧ si = .int .i64 i ∧ Hid (∀ j, j < i → ∃ b, s.data.toList[j]? = some b ∧ Dg.isD b = true)) (fun si => s.size - (intOf si).toNat)
  case atStart => exact ⟨0, by omega, rfl, fun j hj => absurd hj (by omega)⟩
  case round =>
    obtain ⟨i, hi, rfl, hall⟩ := hrel
    have fin : (∀ b, s.data.toList[i]? = some b → Dg.isD b = false) → Hid (Dg.rl s.data.toList = i) := fun h => Dg.rl_eq _ i hall.out h
    by_cases hlt : i < s.size
    · have hlt' : (i : Int) < (s.size : Int) := by omega
      have hb := ba_get s i hlt
      by_cases c1 : (s[i].toNat : Int) < 48
      · have hf : Hid (Dg.rl s.data.toList = i) := fin fun b h => by rw [hb] at h; cases h; simp [Dg.isD]; omega
        clear fin hb
        go_wp2_with fail
        go_quiet (fail)
        go_wp2
        go_ret3
        exact ⟨i, hi, hf, rfl, _, rfl⟩
      · by_cases c2 : (57 : Int) < (s[i].toNat : Int)
        · have hf : Hid (Dg.rl s.data.toList = i) := fin fun b h => by rw [hb] at h; cases h; simp [Dg.isD]; omega
          clear fin hb
          go_wp2_with fail
          go_quiet (fail)
          go_wp2
          go_ret3
          exact ⟨i, hi, hf, rfl, _, rfl⟩
        · have hnew : Hid (∀ j, j < i + 1 → ∃ b, s.data.toList[j]? = some b ∧ Dg.isD b = true) := fun j hj => by
            by_cases hji : j = i
            · subst hji; exact ⟨_, hb, by simp [Dg.isD]; omega⟩
            · exact hall.out j (by omega)
          clear fin hb
          go_wp2
          go_round
          case rel => exact ⟨i + 1, by omega, by go_num, hnew⟩
          case measure => simp [intOf]; omega
    · have hlt' : decide ((i : Int) < (s.size : Int)) = false := decide_eq_false (by omega)
      have hf : Hid (Dg.rl s.data.toList = i) := fin fun b h => by rw [ba_none s i (by omega)] at h; cases h
      clear fin
      go_wp2_with fail
      go_quiet (fail)
      go_wp2
      go_ret3
      exact ⟨i, hi, hf, rfl, _, rfl⟩
theorem pow10_nw {n k K : Nat} (h : n < 10 ^ k) (hk : 4 * k ≤ 64 * K) : Wd.nw W64 n ≤ K := by
  apply nw_bit
  have h1 : 10 ^ k ≤ 16 ^ k := Nat.pow_le_pow_left (by decide) k
  have h2 : 16 ^ k = 2 ^ (4 * k) := by rw [Nat.pow_mul]
  rw [h2] at h1
  exact Nat.lt_of_lt_of_le h (Nat.le_trans h1 (Nat.pow_le_pow_right (by decide) hk))
set_option maxRecDepth 100000 in
set_option maxHeartbeats 400000 in
theorem naturalOfDigits_c (s : ByteArray) (w : World) (hs : s.size ≤ 1000) (hd : Hid (∀ b ∈ s.data.toList, Dg.isD b = true)) :
    Calls Tryz.prog 46 #[.string s] w fun e w' => ∃ v', e = .returned v' ∧ Nl w' w.heap.size v' (Dg.dv s.data.toList) ∧ Below w.heap.size w w' := by
  go_enter Tryz.func46, Tryz.ntmps46
  go_wp2
  go_loopw [3, 7] (fun sv si wr => ∃ i : Nat, i ≤ s.size ∧ si = .int .i64 i ∧ Hid (Nl wr w.heap.size sv (Dg.dv (s.data.toList.take i))) ∧ Hid (Below w.heap.size w wr)) (fun _ si _ => s.size - (intOf si).toNat)
  case atStart => exact ⟨0, by omega, rfl, by show Row _ _ _ _ _ _ _; rw [List.take_zero, Dg.dv_nil, Wd.nw_zero]; exact Row.nil _ _ _ _ _, Below.refl _ _⟩
  case round =>
    obtain ⟨i, hi, rfl, hv, hbl⟩ := hrel
    have hsz := hbl.out.size
    by_cases hlt : i < s.size
    · have hlt' : (i : Int) < (s.size : Int) := by omega
      have hb := ba_get s i hlt
      have hdi : Dg.isD s[i] = true := hd.out _ (List.mem_of_getElem? hb)
      have hsn : Hid (Dg.dv (s.data.toList.take (i + 1)) = Dg.dv (s.data.toList.take i) * 10 + (s[i].toNat - 48)) := by
        show _ = _
        rw [Dg.take_snoc hb, Dg.dv_snoc]
      have hnw : Hid (Wd.nw W64 (Dg.dv (s.data.toList.take i)) ≤ 1000000) := by
        refine pow10_nw (k := i) (K := 1000000) ?_ (by omega)
        have h1 := Dg.dv_lt (s.data.toList.take i) (fun b h => hd.out b (List.mem_of_mem_take h))
        have h2 : (s.data.toList.take i).length ≤ i := by simp; omega
        exact Nat.lt_of_lt_of_le h1 (Nat.pow_le_pow_right (by decide) h2)
      simp [Dg.isD] at hdi
      have hx1 : 48 ≤ s[i].toNat := hdi.1
      have hx2 : s[i].toNat ≤ 57 := hdi.2
      have hxI : ((s[i].toNat : Int) - 48) = ((s[i].toNat - 48 : Nat) : Int) := by omega
      obtain ⟨x, hx⟩ : ∃ x : Nat, s[i].toNat - 48 = x := ⟨_, rfl⟩
      have hx3 : x ≤ 9 := by omega
      rw [hx] at hsn hxI
      clear hb hdi hx
      go_wp2_with fail
      refine (timesPlus_c w.heap.size (Dg.dv (s.data.toList.take i)) 10 x u3 wr hsz hv.out hnw.out (by decide) (by decide) (by omega)).mono ?_
      rintro e w' ⟨v', rfl, hv', hb', _⟩
      have hvn : Hid (Nl w' w.heap.size v' (Dg.dv (s.data.toList.take (i + 1)))) := by rw [hsn.out]; exact hv'
      have hbn : Hid (Below w.heap.size w w') := hbl.out.trans hb'
      clear hv' hb' hv hbl hsn hnw hxI
      go_wp2
      go_roundw
      case rel => exact ⟨i + 1, by omega, by go_num, hvn, hbn⟩
      case measure => simp [intOf]; omega
    · have hlt' : decide ((i : Int) < (s.size : Int)) = false := decide_eq_false (by omega)
      have e : Hid (s.data.toList.take i = s.data.toList) := List.take_of_length_le (by show s.size ≤ i; omega)
      go_wp2
      go_ret
      exact ⟨_, rfl, by rw [← e.out]; exact hv.out, hbl.out⟩
end Go.Proofs.YtoojjefndkdnpaaGreatDoor
