/-
  Digits of a text. Plain.
-/
namespace Go.Proofs.YtfoblbpbhldngaaDoor.Dg
def isD (b : UInt8) : Bool := decide (48 ≤ b.toNat ∧ b.toNat ≤ 57)
/-- how many digits the text begins with -/
def rl (l : List UInt8) : Nat := (l.takeWhile isD).length
theorem rl_le (l : List UInt8) : rl l ≤ l.length := by
  unfold rl
  induction l with
  | nil => simp
  | cons a l ih => simp only [List.takeWhile]; split <;> simp <;> omega
theorem rl_all (l : List UInt8) : ∀ b ∈ l.take (rl l), isD b = true := by
  induction l with
  | nil => simp
  | cons a l ih =>
    unfold rl
    simp only [List.takeWhile]
    split
    · rename_i h
      intro b hb
      simp only [List.length_cons, List.take_succ_cons, List.mem_cons] at hb
      rcases hb with rfl | hb
      · exact h
      · exact ih b hb
    · simp
theorem rl_eq : ∀ (l : List UInt8) (i : Nat), (∀ j, j < i → ∃ b, l[j]? = some b ∧ isD b = true) → (∀ b, l[i]? = some b → isD b = false) → rl l = i
  | [], i, h, _ => by
    cases i with
    | zero => rfl
    | succ i => obtain ⟨b, hb, _⟩ := h 0 (by omega); simp at hb
  | a :: l, i, h, h2 => by
    unfold rl
    simp only [List.takeWhile]
    cases i with
    | zero =>
      have := h2 a (by simp)
      rw [this]; rfl
    | succ i =>
      obtain ⟨b, hb, hd⟩ := h 0 (by omega)
      simp at hb
      subst hb
      rw [hd]
      simp only [List.length_cons]
      congr 1
      refine rl_eq l i (fun j hj => ?_) (fun b hb => ?_)
      · have := h (j + 1) (by omega)
        simpa using this
      · exact h2 b (by simpa using hb)
/-- the number that digits are -/
def dv (l : List UInt8) : Nat := l.foldl (fun n b => n * 10 + (b.toNat - 48)) 0
theorem dv_snoc (l : List UInt8) (b : UInt8) : dv (l ++ [b]) = dv l * 10 + (b.toNat - 48) := by simp [dv]
theorem dv_nil : dv [] = 0 := rfl
theorem take_snoc {l : List UInt8} {i : Nat} {b : UInt8} (h : l[i]? = some b) : l.take (i + 1) = l.take i ++ [b] := by
  rw [List.take_add_one, h]; rfl
theorem foldl_gen (l : List UInt8) : ∀ a : Nat, l.foldl (fun n b => n * 10 + (b.toNat - 48)) a = a * 10 ^ l.length + dv l := by
  induction l with
  | nil => intro a; simp [dv]
  | cons x l ih =>
    intro a
    have h1 := ih (a * 10 + (x.toNat - 48))
    have h2 := ih (0 * 10 + (x.toNat - 48))
    have h3 : dv (x :: l) = l.foldl (fun n b => n * 10 + (b.toNat - 48)) (0 * 10 + (x.toNat - 48)) := rfl
    simp only [List.foldl_cons, List.length_cons]
    rw [h1, h3, h2, Nat.pow_succ]
    generalize 10 ^ l.length = p
    rw [Nat.zero_mul, Nat.zero_add, Nat.add_mul, Nat.add_assoc, Nat.mul_assoc, Nat.mul_comm 10 p]
theorem dv_append (l m : List UInt8) : dv (l ++ m) = dv l * 10 ^ m.length + dv m := by
  have : dv (l ++ m) = m.foldl (fun n b => n * 10 + (b.toNat - 48)) (dv l) := by simp [dv]
  rw [this, foldl_gen]
theorem dv_lt (l : List UInt8) (h : ∀ b ∈ l, isD b = true) : dv l < 10 ^ l.length := by
  induction l with
  | nil => simp [dv]
  | cons x l ih =>
    have e : dv (x :: l) = dv [x] * 10 ^ l.length + dv l := dv_append [x] l
    have h1 := ih (fun b hb => h b (List.mem_cons_of_mem _ hb))
    have h2 : dv [x] ≤ 9 := by
      have := h x List.mem_cons_self
      simp [isD] at this
      simp [dv]; omega
    rw [e, List.length_cons, Nat.pow_succ]
    have := Nat.mul_le_mul_right (10 ^ l.length) h2
    omega
/-- a first digit that isn't nought -/
theorem dv_ge (x : UInt8) (l : List UInt8) (h : 49 ≤ x.toNat) : 10 ^ l.length ≤ dv (x :: l) := by
  have e : dv (x :: l) = dv [x] * 10 ^ l.length + dv l := dv_append [x] l
  have h2 : 1 ≤ dv [x] := by simp [dv]; omega
  rw [e]
  have := Nat.mul_le_mul_right (10 ^ l.length) h2
  omega
/-- without the noughts ahead -/
def tz : List UInt8 → List UInt8
  | [] => []
  | x :: l => if x.toNat = 48 then tz l else x :: l
theorem tz_dv (l : List UInt8) : dv (tz l) = dv l := by
  induction l with
  | nil => rfl
  | cons x l ih =>
    unfold tz
    split
    · rename_i h
      have e : dv (x :: l) = dv [x] * 10 ^ l.length + dv l := dv_append [x] l
      rw [ih, e]
      have : dv [x] = 0 := by simp [dv]; omega
      rw [this]; simp
    · rfl
theorem tz_mem {l : List UInt8} {b : UInt8} (h : b ∈ tz l) : b ∈ l := by
  induction l with
  | nil => simp [tz] at h
  | cons x l ih =>
    unfold tz at h
    split at h
    · exact List.mem_cons_of_mem _ (ih h)
    · exact h
theorem tz_len (l : List UInt8) : (tz l).length ≤ l.length := by
  induction l with
  | nil => simp [tz]
  | cons x l ih => unfold tz; split <;> simp <;> omega
theorem tz_ge (l : List UInt8) (hd : ∀ b ∈ l, isD b = true) (h : tz l ≠ []) : 10 ^ ((tz l).length - 1) ≤ dv l := by
  rw [← tz_dv]
  induction l with
  | nil => exact absurd rfl h
  | cons x l ih =>
    unfold tz at h ⊢
    split
    · rename_i hx
      rw [if_pos hx] at h
      exact ih (fun b hb => hd b (List.mem_cons_of_mem _ hb)) h
    · rename_i hx
      have := hd x List.mem_cons_self
      simp [isD] at this
      rw [List.length_cons, Nat.add_sub_cancel]
      exact dv_ge x l (by omega)
theorem tz_zero (l : List UInt8) (hd : ∀ b ∈ l, isD b = true) : tz l = [] ↔ dv l = 0 := by
  constructor
  · intro h; rw [← tz_dv, h]; rfl
  · intro h
    apply Classical.byContradiction
    intro hne
    have := tz_ge l hd hne
    have := Nat.pow_pos (n := (tz l).length - 1) (show 0 < 10 by decide)
    omega
end Go.Proofs.YtfoblbpbhldngaaDoor.Dg
