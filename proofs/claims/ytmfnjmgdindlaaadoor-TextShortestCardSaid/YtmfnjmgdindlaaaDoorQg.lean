/-
  Digits of a text. Plain.
-/
import Derived.Test.YtmfnjmgdindlaaaDoorQf
namespace Go.Proofs.YtmfnjmgdindlaaaDoor.Dg
def isD (b : UInt8) : Bool := decide (48 ≤ b.toNat ∧ b.toNat ≤ 57)
/-- how many digits the text begins with -/
def rl (l : List UInt8) : Nat := (l.takeWhile isD).length
theorem rl_le (l : List UInt8) : rl l ≤ l.length := by
  unfold rl
  induction l with
  | nil => simp
  | cons a l ih => simp only [List.takeWhile]; split <;> simp <;> omega
theorem rl_all (l : List UInt8) : ∀ b ∈ l.take (rl l), isD b = true := by
  induction l with
  | nil => simp
  | cons a l ih =>
    unfold rl
    simp only [List.takeWhile]
    split
    · rename_i h
      intro b hb
      simp only [List.length_cons, List.take_succ_cons, List.mem_cons] at hb
      rcases hb with rfl | hb
      · exact h
      · exact ih b hb
    · simp
theorem rl_eq : ∀ (l : List UInt8) (i : Nat), (∀ j, j < i → ∃ b, l[j]? = some b ∧ isD b = true) → (∀ b, l[i]? = some b → isD b = false) → rl l = i
  | [], i, h, _ => by
    cases i with
    | zero => rfl
    | succ i => obtain ⟨b, hb, _⟩ := h 0 (by omega); simp at hb
  | a :: l, i, h, h2 => by
    unfold rl
    simp only [List.takeWhile]
    cases i with
    | zero =>
      have := h2 a (by simp)
      rw [this]; rfl
    | succ i =>
      obtain ⟨b, hb, hd⟩ := h 0 (by omega)
      simp at hb
      subst hb
      rw [hd]
      simp only [List.length_cons]
      congr 1
      refine rl_eq l i (fun j hj => ?_) (fun b hb => ?_)
      · have := h (j + 1) (by omega)
        simpa using this
      · exact h2 b (by simpa using hb)
/-- the number that digits are -/
def dv (l : List UInt8) : Nat := l.foldl (fun n b => n * 10 + (b.toNat - 48)) 0
theorem dv_snoc (l : List UInt8) (b : UInt8) : dv (l ++ [b]) = dv l * 10 + (b.toNat - 48) := by simp [dv]
theorem dv_nil : dv [] = 0 := rfl
theorem take_snoc {l : List UInt8} {i : Nat} {b : UInt8} (h : l[i]? = some b) : l.take (i + 1) = l.take i ++ [b] := by
  rw [List.take_add_one, h]; rfl
theorem foldl_gen (l : List UInt8) : ∀ a : Nat, l.foldl (fun n b => n * 10 + (b.toNat - 48)) a = a * 10 ^ l.length + dv l := by
  induction l with
  | nil => intro a; simp [dv]
  | cons x l ih =>
    intro a
    have h1 := ih (a * 10 + (x.toNat - 48))
    have h2 := ih (0 * 10 + (x.toNat - 48))
    have h3 : dv (x :: l) = l.foldl (fun n b => n * 10 + (b.toNat - 48)) (0 * 10 + (x.toNat - 48)) := rfl
    simp only [List.foldl_cons, List.length_cons]
    rw [h1, h3, h2, Nat.pow_succ]
    generalize 10 ^ l.length = p
    rw [Nat.zero_mul, Nat.zero_add, Nat.add_mul, Nat.add_assoc, Nat.mul_assoc, Nat.mul_comm 10 p]
theorem dv_append (l m : List UInt8) : dv (l ++ m) = dv l * 10 ^ m.length + dv m := by
  have : dv (l ++ m) = m.foldl (fun n b => n * 10 + (b.toNat - 48)) (dv l) := by simp [dv]
  rw [this, foldl_gen]
theorem dv_lt (l : List UInt8) (h : ∀ b ∈ l, isD b = true) : dv l < 10 ^ l.length := by
  induction l with
  | nil => simp [dv]
  | cons x l ih =>
    have e : dv (x :: l) = dv [x] * 10 ^ l.length + dv l := dv_append [x] l
    have h1 := ih (fun b hb => h b (List.mem_cons_of_mem _ hb))
    have h2 : dv [x] ≤ 9 := by
      have := h x List.mem_cons_self
      simp [isD] at this
      simp [dv]; omega
    rw [e, List.length_cons, Nat.pow_succ]
    have := Nat.mul_le_mul_right (10 ^ l.length) h2
    omega
/-- a first digit that isn't nought -/
theorem dv_ge (x : UInt8) (l : List UInt8) (h : 49 ≤ x.toNat) : 10 ^ l.length ≤ dv (x :: l) := by
  have e : dv (x :: l) = dv [x] * 10 ^ l.length + dv l := dv_append [x] l
  have h2 : 1 ≤ dv [x] := by simp [dv]; omega
  rw [e]
  have := Nat.mul_le_mul_right (10 ^ l.length) h2
  omega
/-- without the noughts ahead -/
def tz : List UInt8 → List UInt8
  | [] => []
  | x :: l => if x.toNat = 48 then tz l else x :: l
theorem tz_dv (l : List UInt8) : dv (tz l) = dv l := by
  induction l with
  | nil => rfl
  | cons x l ih =>
    unfold tz
    split
    · rename_i h
      have e : dv (x :: l) = dv [x] * 10 ^ l.length + dv l := dv_append [x] l
      rw [ih, e]
      have : dv [x] = 0 := by simp [dv]; omega
      rw [this]; simp
    · rfl
theorem tz_mem {l : List UInt8} {b : UInt8} (h : b ∈ tz l) : b ∈ l := by
  induction l with
  | nil => simp [tz] at h
  | cons x l ih =>
    unfold tz at h
    split at h
    · exact List.mem_cons_of_mem _ (ih h)
    · exact h
theorem tz_len (l : List UInt8) : (tz l).length ≤ l.length := by
  induction l with
  | nil => simp [tz]
  | cons x l ih => unfold tz; split <;> simp <;> omega
theorem tz_ge (l : List UInt8) (hd : ∀ b ∈ l, isD b = true) (h : tz l ≠ []) : 10 ^ ((tz l).length - 1) ≤ dv l := by
  rw [← tz_dv]
  induction l with
  | nil => exact absurd rfl h
  | cons x l ih =>
    unfold tz at h ⊢
    split
    · rename_i hx
      rw [if_pos hx] at h
      exact ih (fun b hb => hd b (List.mem_cons_of_mem _ hb)) h
    · rename_i hx
      have := hd x List.mem_cons_self
      simp [isD] at this
      rw [List.length_cons, Nat.add_sub_cancel]
      exact dv_ge x l (by omega)
theorem tz_zero (l : List UInt8) (hd : ∀ b ∈ l, isD b = true) : tz l = [] ↔ dv l = 0 := by
  constructor
  · intro h; rw [← tz_dv, h]; rfl
  · intro h
    apply Classical.byContradiction
    intro hne
    have := tz_ge l hd hne
    have := Nat.pow_pos (n := (tz l).length - 1) (show 0 < 10 by decide)
    omega
end Go.Proofs.YtmfnjmgdindlaaaDoor.Dg
/-
  Digits of a text: cutDigits, naturalOfDigits.
-/
namespace Go.Proofs.YtmfnjmgdindlaaaDoor
open Flo Go.RowKit
theorem ba_get (s : ByteArray) (i : Nat) (h : i < s.size) : s.data.toList[i]? = some s[i] := by
  have h2 : i < s.data.toList.length := h
  rw [List.getElem?_eq_getElem h2]; rfl
theorem ba_none (s : ByteArray) (i : Nat) (h : s.size ≤ i) : s.data.toList[i]? = none := by
  have h2 : s.data.toList.length ≤ i := h
  exact List.getElem?_eq_none h2
set_option maxRecDepth 100000 in
set_option maxHeartbeats 400000 in
theorem cutDigits_c (s : ByteArray) (w : World) (hs : s.size ≤ 1000) :
    Calls Tryd.prog 32 #[.string s] w fun e w' => ∃ i : Nat, i ≤ s.size ∧ Hid (Dg.rl s.data.toList = i) ∧ e = .returned (.tuple #[.string (s.extract 0 i), .string (s.extract i s.size), .bool (decide (0 < i))]) ∧ ∃ q, w' = w.drewN q := by
  go_enter Tryd.func32, Tryd.ntmps32
  go_wp2
  go_loop [5] (fun si => ∃ i : Nat, i ≤ s.size ∧ si = .int .i64 i ∧ Hid (∀ j, j < i → ∃ b, s.data.toList[j]? = some b ∧ Dg.isD b = true)) (fun si => s.size - (intOf si).toNat)
  case atStart => exact ⟨0, by omega, rfl, fun j hj => absurd hj (by omega)⟩
  case round =>
    obtain ⟨i, hi, rfl, hall⟩ := hrel
    have fin : (∀ b, s.data.toList[i]? = some b → Dg.isD b = false) → Hid (Dg.rl s.data.toList = i) := fun h => Dg.rl_eq _ i hall.out h
    by_cases hlt : i < s.size
    · have hlt' : (i : Int) < (s.size : Int) := by omega
      have hb := ba_get s i hlt
      by_cases c1 : (s[i].toNat : Int) < 48
      · have hf : Hid (Dg.rl s.data.toList = i) := fin fun b h => by rw [hb] at h; cases h; simp [Dg.isD]; omega
        clear fin hb
        go_wp2_with fail
        go_quiet (fail)
        go_wp2
        go_ret3
        exact ⟨i, hi, hf, rfl, _, rfl⟩
      · by_cases c2 : (57 : Int) < (s[i].toNat : Int)
        · have hf : Hid (Dg.rl s.data.toList = i) := fin fun b h => by rw [hb] at h; cases h; simp [Dg.isD]; omega
          clear fin hb
          go_wp2_with fail
          go_quiet (fail)
          go_wp2
          go_ret3
          exact ⟨i, hi, hf, rfl, _, rfl⟩
        · have hnew : Hid (∀ j, j < i + 1 → ∃ b, s.data.toList[j]? = some b ∧ Dg.isD b = true) := fun j hj => by
            by_cases hji : j = i
            · subst hji; exact ⟨_, hb, by simp [Dg.isD]; omega⟩
            · exact hall.out j (by omega)
          clear fin hb
          go_wp2
          go_round
          case rel => exact ⟨i + 1, by omega, by go_num, hnew⟩
          case measure => simp [intOf]; omega
    · have hlt' : decide ((i : Int) < (s.size : Int)) = false := decide_eq_false (by omega)
      have hf : Hid (Dg.rl s.data.toList = i) := fin fun b h => by rw [ba_none s i (by omega)] at h; cases h
      clear fin
      go_wp2_with fail
      go_quiet (fail)
      go_wp2
      go_ret3
      exact ⟨i, hi, hf, rfl, _, rfl⟩
theorem pow10_nw {n k K : Nat} (h : n < 10 ^ k) (hk : 4 * k ≤ 64 * K) : Wd.nw W64 n ≤ K := by
  apply nw_bit
  have h1 : 10 ^ k ≤ 16 ^ k := Nat.pow_le_pow_left (by decide) k
  have h2 : 16 ^ k = 2 ^ (4 * k) := by rw [Nat.pow_mul]
  rw [h2] at h1
  exact Nat.lt_of_lt_of_le h (Nat.le_trans h1 (Nat.pow_le_pow_right (by decide) hk))
set_option maxRecDepth 100000 in
set_option maxHeartbeats 400000 in
theorem naturalOfDigits_c (s : ByteArray) (w : World) (hs : s.size ≤ 1000) (hd : Hid (∀ b ∈ s.data.toList, Dg.isD b = true)) :
    Calls Tryd.prog 35 #[.string s] w fun e w' => ∃ v', e = .returned v' ∧ Nl w' w.heap.size v' (Dg.dv s.data.toList) ∧ Below w.heap.size w w' := by
  go_enter Tryd.func35, Tryd.ntmps35
  go_wp2
  go_loopw [3, 7] (fun sv si wr => ∃ i : Nat, i ≤ s.size ∧ si = .int .i64 i ∧ Hid (Nl wr w.heap.size sv (Dg.dv (s.data.toList.take i))) ∧ Hid (Below w.heap.size w wr)) (fun _ si _ => s.size - (intOf si).toNat)
  case atStart => exact ⟨0, by omega, rfl, by show Row _ _ _ _ _ _ _; rw [List.take_zero, Dg.dv_nil, Wd.nw_zero]; exact Row.nil _ _ _ _ _, Below.refl _ _⟩
  case round =>
    obtain ⟨i, hi, rfl, hv, hbl⟩ := hrel
    have hsz := hbl.out.size
    by_cases hlt : i < s.size
    · have hlt' : (i : Int) < (s.size : Int) := by omega
      have hb := ba_get s i hlt
      have hdi : Dg.isD s[i] = true := hd.out _ (List.mem_of_getElem? hb)
      have hsn : Hid (Dg.dv (s.data.toList.take (i + 1)) = Dg.dv (s.data.toList.take i) * 10 + (s[i].toNat - 48)) := by
        show _ = _
        rw [Dg.take_snoc hb, Dg.dv_snoc]
      have hnw : Hid (Wd.nw W64 (Dg.dv (s.data.toList.take i)) ≤ 1000000) := by
        refine pow10_nw (k := i) (K := 1000000) ?_ (by omega)
        have h1 := Dg.dv_lt (s.data.toList.take i) (fun b h => hd.out b (List.mem_of_mem_take h))
        have h2 : (s.data.toList.take i).length ≤ i := by simp; omega
        exact Nat.lt_of_lt_of_le h1 (Nat.pow_le_pow_right (by decide) h2)
      simp [Dg.isD] at hdi
      have hx1 : 48 ≤ s[i].toNat := hdi.1
      have hx2 : s[i].toNat ≤ 57 := hdi.2
      have hxI : ((s[i].toNat : Int) - 48) = ((s[i].toNat - 48 : Nat) : Int) := by omega
      obtain ⟨x, hx⟩ : ∃ x : Nat, s[i].toNat - 48 = x := ⟨_, rfl⟩
      have hx3 : x ≤ 9 := by omega
      rw [hx] at hsn hxI
      clear hb hdi hx
      go_wp2_with fail
      refine (timesPlus_c w.heap.size (Dg.dv (s.data.toList.take i)) 10 x u3 wr hsz hv.out hnw.out (by decide) (by decide) (by omega)).mono ?_
      rintro e w' ⟨v', rfl, hv', hb', _⟩
      have hvn : Hid (Nl w' w.heap.size v' (Dg.dv (s.data.toList.take (i + 1)))) := by rw [hsn.out]; exact hv'
      have hbn : Hid (Below w.heap.size w w') := hbl.out.trans hb'
      clear hv' hb' hv hbl hsn hnw hxI
      go_wp2
      go_roundw
      case rel => exact ⟨i + 1, by omega, by go_num, hvn, hbn⟩
      case measure => simp [intOf]; omega
    · have hlt' : decide ((i : Int) < (s.size : Int)) = false := decide_eq_false (by omega)
      have e : Hid (s.data.toList.take i = s.data.toList) := List.take_of_length_le (by show s.size ≤ i; omega)
      go_wp2
      go_ret
      exact ⟨_, rfl, by rw [← e.out]; exact hv.out, hbl.out⟩
end Go.Proofs.YtmfnjmgdindlaaaDoor
/-
  Texts: CutPrefix of one sign, TrimLeft.
-/
namespace Go.Proofs.YtmfnjmgdindlaaaDoor
open Flo Go.RowKit
/-- a text by its signs -/
def B (l : List UInt8) : ByteArray := ⟨l.toArray⟩
theorem B_size (l : List UInt8) : (B l).size = l.length := by simp [B, ByteArray.size]
theorem B_data (l : List UInt8) : (B l).data.toList = l := by simp [B]
theorem B_of (s : ByteArray) : s = B s.data.toList := by simp [B]
theorem B_extract (l : List UInt8) (a b : Nat) : (B l).extract a b = B ((l.drop a).take (b - a)) := ByteArray.extract_mk l a b
theorem B_pre (l : List UInt8) (i : Nat) : (B l).extract 0 i = B (l.take i) := by rw [B_extract]; simp
theorem B_suf (l : List UInt8) (i : Nat) : (B l).extract i (B l).size = B (l.drop i) := by
  rw [B_extract, B_size, List.take_of_length_le (by simp)]
theorem B_append (l m : List UInt8) : B l ++ B m = B (l ++ m) := by
  unfold B
  apply ByteArray.ext
  simp
theorem B_toList (l : List UInt8) : (B l).toList = l := ByteArray.toList_mk l
theorem B_inj {l m : List UInt8} (h : B l = B m) : l = m := by rw [← B_data l, h, B_data]
set_option maxRecDepth 100000 in
set_option maxHeartbeats 400000 in
theorem cutPrefix_0 (c : UInt8) (s : ByteArray) (w : World) (hs : s.size = 0) :
    Calls Tryd.prog 31 #[.string s, .string ⟨#[c]⟩] w fun e w' => e = .returned (.tuple #[.string s, .bool false]) ∧ w = w' := by
  have h1 : (s.size : Int) < 1 := by omega
  go_enter Tryd.func31, Tryd.ntmps31
  go_wp2
  go_ret2
  exact ⟨rfl, rfl⟩
set_option maxRecDepth 100000 in
set_option maxHeartbeats 400000 in
theorem cutPrefix_n (c : UInt8) (s : ByteArray) (w : World) (h1 : (1 : Int) ≤ (s.size : Int)) (h2 : ((s.extract 0 1).toList == [c]) = false) :
    Calls Tryd.prog 31 #[.string s, .string ⟨#[c]⟩] w fun e w' => e = .returned (.tuple #[.string s, .bool false]) ∧ w = w' := by
  go_enter Tryd.func31, Tryd.ntmps31
  go_wp2
  go_ret2
  exact ⟨rfl, rfl⟩
set_option maxRecDepth 100000 in
set_option maxHeartbeats 400000 in
theorem cutPrefix_y (c : UInt8) (s : ByteArray) (w : World) (h1 : (1 : Int) ≤ (s.size : Int)) (h2 : ((s.extract 0 1).toList == [c]) = true) :
    Calls Tryd.prog 31 #[.string s, .string ⟨#[c]⟩] w fun e w' => e = .returned (.tuple #[.string (s.extract 1 s.size), .bool true]) ∧ w = w' := by
  go_enter Tryd.func31, Tryd.ntmps31
  go_wp2
  go_ret2
  exact ⟨rfl, rfl⟩
/-- behind a sign, and whether it was there -/
def cut1 (c : UInt8) : List UInt8 → List UInt8 × Bool
  | [] => ([], false)
  | x :: l => if x = c then (l, true) else (x :: l, false)
theorem cutPrefix_c (c : UInt8) (l : List UInt8) (w : World) :
    Calls Tryd.prog 31 #[.string (B l), .string ⟨#[c]⟩] w fun e w' => e = .returned (.tuple #[.string (B (cut1 c l).1), .bool (cut1 c l).2]) ∧ w = w' := by
  cases l with
  | nil => exact cutPrefix_0 c (B []) w (by rw [B_size]; rfl)
  | cons x l =>
    have hsz : (B (x :: l)).size = l.length + 1 := B_size _
    have e : (((B (x :: l)).extract 0 1).toList == [c]) = decide (x = c) := by
      rw [B_pre, B_toList]
      simp only [List.take_succ_cons, List.take_zero]
      cases h : decide (x = c) with
      | true => rw [of_decide_eq_true h]; simp
      | false => simp [of_decide_eq_false h]
    by_cases hc : x = c
    · have e2 : cut1 c (x :: l) = (l, true) := by simp [cut1, hc]
      rw [e2]
      refine (cutPrefix_y c _ w (by omega) (by rw [e]; exact decide_eq_true hc)).mono ?_
      rintro e w' ⟨rfl, rfl⟩
      rw [B_suf]
      exact ⟨rfl, rfl⟩
    · have e2 : cut1 c (x :: l) = (x :: l, false) := by simp [cut1, hc]
      rw [e2]
      exact cutPrefix_n c _ w (by omega) (by rw [e]; exact decide_eq_false hc)
theorem B_head {x : UInt8} {m : List UInt8} {s : ByteArray} (hs : s = B (x :: m)) (h : 0 < s.size) : s[0] = x := by
  have h1 := ba_get s 0 h
  have h2 : s.data.toList = x :: m := by rw [hs, B_data]
  rw [h2] at h1
  simp at h1
  exact h1.symm
def strLen : Value → Nat | .string s => s.size | _ => 0
set_option maxRecDepth 100000 in
set_option maxHeartbeats 400000 in
theorem trimLeftByte_c (l : List UInt8) (w : World) (hl : l.length ≤ 1000) :
    Calls Tryd.prog 52 #[.string (B l), .int .u8 48] w fun e w' => e = .returned (.string (B (Dg.tz l))) ∧ w = w' := by
  go_enter Tryd.func52, Tryd.ntmps52
  go_wp2
  go_loop [0] (fun ss => ∃ m : List UInt8, m.length ≤ l.length ∧ ss = .string (B m) ∧ Hid (Dg.tz m = Dg.tz l)) (fun ss => strLen ss)
  case atStart => exact ⟨l, Nat.le_refl _, rfl, rfl⟩
  case round =>
    obtain ⟨m, hm, rfl, htz⟩ := hrel
    cases m with
    | nil =>
      have hz : (B []).size = 0 := rfl
      have htz2 : Hid (Dg.tz l = []) := htz.out.symm
      go_wp2
      go_ret
      rw [htz2.out]
      exact ⟨rfl, rfl⟩
    | cons x m =>
      rw [List.length_cons] at hm
      obtain ⟨s, hs⟩ : ∃ s, s = B (x :: m) := ⟨_, rfl⟩
      have hz : s.size = m.length + 1 := by rw [hs]; exact B_size _
      have h0 : 0 < s.size := by omega
      have hx := B_head hs h0
      have hsuf : Hid (s.extract 1 s.size = B m) := by show _ = _; rw [hs, B_suf]; rfl
      rw [← hs]
      have hsH : Hid (s = B (x :: m)) := hs
      have hzH : Hid (s.size = m.length + 1) := hz
      have hsl : s.size ≤ 1000 := by omega
      have hxH : Hid (s[0] = x) := hx
      clear hs hz hx
      by_cases hc : x.toNat = 48
      · have c1 : ((s[0].toNat : Int) == 48) = true := by rw [hxH.out, beq_iff_eq]; omega
        have hnew : Hid (Dg.tz m = Dg.tz l) := by rw [← htz.out]; show _ = Dg.tz (x :: m); conv => rhs; unfold Dg.tz; rw [if_pos hc]
        go_wp2
        exact ⟨⟨m, by omega, by rw [hsuf.out], hnew⟩, by rw [hsuf.out]; show (B m).size < s.size; rw [B_size]; have := hzH.out; omega⟩
      · have c1 : ((s[0].toNat : Int) == 48) = false := by rw [hxH.out]; exact beq_eq_false_iff_ne.2 (by omega)
        have hfin : Hid (s = B (Dg.tz l)) := by rw [← htz.out]; show s = B (Dg.tz (x :: m)); rw [hsH.out]; unfold Dg.tz; rw [if_neg hc]
        go_wp2
        go_ret
        exact ⟨by rw [← hfin.out]; rfl, rfl⟩
set_option maxRecDepth 100000 in
set_option maxHeartbeats 400000 in
theorem trimLeft_0 (s : ByteArray) (w : World) (h0 : s.toList.isEmpty = true) :
    Calls Tryd.prog 34 #[.string s, .string ⟨#[48]⟩] w fun e w' => e = .returned (.string s) ∧ w = w' := by
  go_enter Tryd.func34, Tryd.ntmps34
  go_wp2
  go_ret
  exact ⟨rfl, rfl⟩
set_option maxRecDepth 100000 in
set_option maxHeartbeats 400000 in
theorem trimLeft_n (s r : ByteArray) (w : World) (h0 : s.toList.isEmpty = false) (hc : Hid (Calls Tryd.prog 52 #[.string s, .int .u8 48] w fun e w' => e = .returned (.string r) ∧ w = w')) :
    Calls Tryd.prog 34 #[.string s, .string ⟨#[48]⟩] w fun e w' => e = .returned (.string r) ∧ w = w' := by
  obtain ⟨c, hcs⟩ : ∃ c : ByteArray, c = ⟨#[48]⟩ := ⟨_, rfl⟩
  have h1 : c.size = 1 := by rw [hcs]; rfl
  have h2 : 0 < c.size := by omega
  have h3 : c[0].toNat = 48 := by subst hcs; rfl
  have h4 : c.toList.isEmpty = false := by rw [hcs, ByteArray.toList_eq]; rfl
  rw [← hcs]
  clear hcs
  go_enter Tryd.func34, Tryd.ntmps34
  go_wp2_with fail
  refine hc.out.mono ?_
  rintro e w' ⟨rfl, rfl⟩
  go_wp2
  go_ret
  exact ⟨rfl, rfl⟩
theorem trimLeft_c (l : List UInt8) (w : World) (hl : l.length ≤ 1000) :
    Calls Tryd.prog 34 #[.string (B l), .string ⟨#[48]⟩] w fun e w' => e = .returned (.string (B (Dg.tz l))) ∧ w = w' := by
  cases l with
  | nil => exact trimLeft_0 (B []) w (by rw [B_toList]; rfl)
  | cons x l => exact trimLeft_n (B (x :: l)) (B (Dg.tz (x :: l))) w (by rw [B_toList]; rfl) (trimLeftByte_c (x :: l) w hl)
theorem cutDigits_l (l : List UInt8) (w : World) (hl : l.length ≤ 1000) :
    Calls Tryd.prog 32 #[.string (B l)] w fun e w' => e = .returned (.tuple #[.string (B (l.take (Dg.rl l))), .string (B (l.drop (Dg.rl l))), .bool (decide (0 < Dg.rl l))]) ∧ ∃ q, w' = w.drewN q := by
  refine (cutDigits_c (B l) w (by rw [B_size]; exact hl)).mono ?_
  rintro e w' ⟨i, hi, hr, rfl, q, rfl⟩
  have h := hr.out
  rw [B_data] at h
  subst h
  rw [B_pre, B_suf]
  exact ⟨rfl, q, rfl⟩
/-- an exponent, brought to its end -/
def exf (ds : List UInt8) : Nat := ds.foldl (fun e b => min (10 * e + (b.toNat - 48)) 9999) 0
theorem exf_snoc (ds : List UInt8) (b : UInt8) : exf (ds ++ [b]) = min (10 * exf ds + (b.toNat - 48)) 9999 := by simp [exf]
theorem exf_le (ds : List UInt8) : exf ds ≤ 9999 := by
  have key : ∀ (ds : List UInt8) (a : Nat), a ≤ 9999 → ds.foldl (fun e b => min (10 * e + (b.toNat - 48)) 9999) a ≤ 9999 := by
    intro ds
    induction ds with
    | nil => intro a h; exact h
    | cons x l ih => intro a _; exact ih _ (Nat.min_le_right _ _)
  exact key ds 0 (by omega)
theorem exf_min (ds : List UInt8) : exf ds = min (Dg.dv ds) 9999 := by
  have key : ∀ (ds : List UInt8) (a : Nat), ds.foldl (fun e b => min (10 * e + (b.toNat - 48)) 9999) (min a 9999) = min (ds.foldl (fun n b => n * 10 + (b.toNat - 48)) a) 9999 := by
    intro ds
    induction ds with
    | nil => intro a; rfl
    | cons x l ih =>
      intro a
      simp only [List.foldl_cons]
      rw [← ih]
      congr 1
      omega
  exact key ds 0
set_option maxRecDepth 100000 in
set_option maxHeartbeats 400000 in
theorem cutExponent_t (s t ds r : ByteArray) (mi ok : Bool) (w : World) (hd : Hid (∀ b ∈ ds.data.toList, Dg.isD b = true)) (hds : ds.size ≤ 1000)
    (h1 : Hid (Calls Tryd.prog 31 #[.string s, .string ⟨#[45]⟩] w fun e w' => e = .returned (.tuple #[.string t, .bool mi]) ∧ w = w'))
    (h2 : Hid (Calls Tryd.prog 32 #[.string t] w fun e w' => e = .returned (.tuple #[.string ds, .string r, .bool ok]) ∧ ∃ q, w' = w.drewN q)) :
    Calls Tryd.prog 33 #[.string s] w fun e w' => e = .returned (.tuple #[.int .i64 (if mi then -(exf ds.data.toList : Int) else (exf ds.data.toList : Int)), .string r, .bool ok]) ∧ ∃ q, w' = w.drewN q := by
  go_enter Tryd.func33, Tryd.ntmps33
  go_wp2_with fail
  refine h1.out.mono ?_
  rintro e w' ⟨rfl, rfl⟩
  go_wp2_with fail
  refine h2.out.mono ?_
  rintro e w' ⟨rfl, q, rfl⟩
  clear h1 h2
  go_wp2_with fail
  generalize hwq : w.drewN q = wq
  have hwH : Hid (w.drewN q = wq) := hwq
  clear hwq
  go_loop [2, 21] (fun se si => ∃ i e : Nat, i ≤ ds.size ∧ e ≤ 9999 ∧ se = .int .i64 e ∧ si = .int .i64 i ∧ Hid (e = exf (ds.data.toList.take i))) (fun _ si => ds.size - (intOf si).toNat)
  case atStart => exact ⟨0, 0, by omega, by omega, rfl, rfl, rfl⟩
  case round =>
    obtain ⟨i, e, hi, he, rfl, rfl, hex⟩ := hrel
    by_cases hlt : i < ds.size
    · have hlt' : (i : Int) < (ds.size : Int) := by omega
      have hb := ba_get ds i hlt
      have hdi : Dg.isD ds[i] = true := hd.out _ (List.mem_of_getElem? hb)
      have hsn : Hid (exf (ds.data.toList.take (i + 1)) = min (10 * e + (ds[i].toNat - 48)) 9999) := by
        show _ = _
        rw [Dg.take_snoc hb, exf_snoc, ← hex.out]
      simp [Dg.isD] at hdi
      have hx1 : 48 ≤ ds[i].toNat := hdi.1
      have hx2 : ds[i].toNat ≤ 57 := hdi.2
      have hxI : ((ds[i].toNat : Int) - 48) = ((ds[i].toNat - 48 : Nat) : Int) := by omega
      obtain ⟨x, hx⟩ : ∃ x : Nat, ds[i].toNat - 48 = x := ⟨_, rfl⟩
      have hx3 : x ≤ 9 := by omega
      rw [hx] at hsn hxI
      clear hb hdi hx hex
      go_wp2
      all_goals (refine ⟨⟨i + 1, min (10 * e + x) 9999, by omega, by omega, by go_num, by go_num, hsn.out.symm⟩, by simp [intOf]; omega⟩)
    · have hlt' : decide ((i : Int) < (ds.size : Int)) = false := decide_eq_false (by omega)
      have hfin : Hid (exf ds.data.toList = e) := by
        have h := hex.out
        rw [List.take_of_length_le (by show ds.size ≤ i; omega)] at h
        exact h.symm
      cases mi
      · go_wp2
        go_ret3
        exact ⟨by rw [hfin.out]; rfl, q, hwH.out.symm⟩
      · go_wp2
        go_ret3
        exact ⟨by rw [hfin.out]; rfl, q, hwH.out.symm⟩
/-- an exponent's text: its number, what is behind, whether there is one -/
def cx (l : List UInt8) : Int × List UInt8 × Bool :=
  let t := (cut1 45 l).1
  ((if (cut1 45 l).2 then -(exf (t.take (Dg.rl t)) : Int) else (exf (t.take (Dg.rl t)) : Int)), t.drop (Dg.rl t), decide (0 < Dg.rl t))
theorem cut1_len (c : UInt8) (l : List UInt8) : (cut1 c l).1.length ≤ l.length := by
  cases l with
  | nil => simp [cut1]
  | cons x l => simp only [cut1]; split <;> simp
theorem cutExponent_c (l : List UInt8) (w : World) (hl : l.length ≤ 1000) :
    Calls Tryd.prog 33 #[.string (B l)] w fun e w' => e = .returned (.tuple #[.int .i64 (cx l).1, .string (B (cx l).2.1), .bool (cx l).2.2]) ∧ ∃ q, w' = w.drewN q := by
  have h1 := cutPrefix_c 45 l w
  have hl1 := cut1_len 45 l
  have h2 := cutDigits_l (cut1 45 l).1 w (by omega)
  have h3 := cutExponent_t (B l) (B (cut1 45 l).1) _ _ _ _ w (by rw [B_data]; exact Dg.rl_all _) (by rw [B_size]; simp; omega) h1 h2
  rw [B_data] at h3
  exact h3
end Go.Proofs.YtmfnjmgdindlaaaDoor
