/-
  Varints and bytes, the lowest first. Plain.
-/
namespace Go.Proofs.YtedfjedmapimnaaDoor.Pk
/-- a varint's bytes (n: fuel) -/
def vf : Nat → Nat → List Nat
  | 0, x => [x]
  | n + 1, x => if x < 128 then [x] else (x % 128 + 128) :: vf n (x / 128)
def vi (x : Nat) : List Nat := vf x x
theorem vf_eq : ∀ (n m x : Nat), x ≤ n → x ≤ m → vf n x = vf m x
  | 0, 0, x, _, _ => rfl
  | 0, m + 1, x, h, _ => by
    have : x = 0 := by omega
    subst this; rfl
  | n + 1, 0, x, _, h => by
    have : x = 0 := by omega
    subst this; rfl
  | n + 1, m + 1, x, h, h2 => by
    show (if _ then _ else _) = (if _ then _ else _)
    by_cases hx : x < 128
    · rw [if_pos hx, if_pos hx]
    · rw [if_neg hx, if_neg hx, vf_eq n m (x / 128) (by omega) (by omega)]
theorem vi_small {x : Nat} (h : x < 128) : vi x = [x] := by
  unfold vi
  cases x with
  | zero => rfl
  | succ n => show (if _ then _ else _) = _; rw [if_pos h]
theorem vi_big {x : Nat} (h : 128 ≤ x) : vi x = (x % 128 + 128) :: vi (x / 128) := by
  unfold vi
  cases x with
  | zero => omega
  | succ n =>
    show (if _ then _ else _) = _
    rw [if_neg (by omega), vf_eq n ((n + 1) / 128) _ (by omega) (by omega)]
theorem vi_ne (x : Nat) : vi x ≠ [] := by
  by_cases h : x < 128
  · rw [vi_small h]; simp
  · rw [vi_big (by omega)]; simp
theorem vi_len_le : ∀ (k x : Nat), x < 128 ^ (k + 1) → (vi x).length ≤ k + 1
  | 0, x, h => by rw [vi_small (by simpa using h)]; simp
  | k + 1, x, h => by
    by_cases hx : x < 128
    · rw [vi_small hx]; simp
    · rw [vi_big (by omega), List.length_cons]
      have := vi_len_le k (x / 128) (by rw [Nat.pow_succ] at h; omega)
      omega
theorem vi_len {x : Nat} (h : x < 18446744073709551616) : (vi x).length ≤ 10 := vi_len_le 9 x (by omega)
theorem vi_byte : ∀ (k x : Nat), x ≤ k → ∀ b ∈ vi x, b < 256
  | 0, x, h, b, hb => by rw [vi_small (by omega)] at hb; simp at hb; omega
  | k + 1, x, h, b, hb => by
    by_cases hx : x < 128
    · rw [vi_small hx] at hb; simp at hb; omega
    · rw [vi_big (by omega), List.mem_cons] at hb
      rcases hb with rfl | hb
      · omega
      · exact vi_byte k (x / 128) (by omega) b hb
/-- k bytes of x, the lowest first -/
def lo : Nat → Nat → List Nat
  | 0, _ => []
  | k + 1, x => x % 256 :: lo k (x / 256)
theorem lo_len : ∀ (k x : Nat), (lo k x).length = k
  | 0, _ => rfl
  | k + 1, x => by show _ + 1 = _; rw [lo_len k]
theorem lo_snoc : ∀ (k x : Nat), lo (k + 1) x = lo k x ++ [x / 256 ^ k % 256]
  | 0, x => by simp [lo]
  | k + 1, x => by
    show x % 256 :: lo (k + 1) (x / 256) = (x % 256 :: lo k (x / 256)) ++ _
    rw [lo_snoc k, List.cons_append, Nat.div_div_eq_div_mul, ← Nat.pow_succ']
theorem lo_byte : ∀ (k x : Nat), ∀ b ∈ lo k x, b < 256
  | 0, _, b, hb => by cases hb
  | k + 1, x, b, hb => by
    rcases List.mem_cons.1 hb with rfl | hb
    · omega
    · exact lo_byte k (x / 256) b hb
/-- the number of bytes, the lowest first -/
def un : List Nat → Nat
  | [] => 0
  | b :: l => b + 256 * un l
theorem un_snoc : ∀ (l : List Nat) (b : Nat), un (l ++ [b]) = un l + b * 256 ^ l.length
  | [], b => by simp [un]
  | a :: l, b => by
    show a + 256 * un (l ++ [b]) = a + 256 * un l + b * 256 ^ (l.length + 1)
    rw [un_snoc l b, Nat.pow_succ, Nat.mul_add, Nat.add_assoc, Nat.mul_comm (256 ^ l.length) 256, Nat.mul_left_comm b]
theorem un_lt : ∀ (l : List Nat), (∀ b ∈ l, b < 256) → un l < 256 ^ l.length
  | [], _ => by simp [un]
  | a :: l, h => by
    have h1 := un_lt l fun b hb => h b (List.mem_cons_of_mem _ hb)
    have h2 := h a List.mem_cons_self
    show a + 256 * un l < 256 ^ (l.length + 1)
    rw [Nat.pow_succ]
    omega
theorem lo_un : ∀ (l : List Nat), (∀ b ∈ l, b < 256) → lo l.length (un l) = l
  | [], _ => rfl
  | a :: l, h => by
    have h2 := h a List.mem_cons_self
    show (a + 256 * un l) % 256 :: lo l.length ((a + 256 * un l) / 256) = _
    rw [show (a + 256 * un l) % 256 = a by omega, show (a + 256 * un l) / 256 = un l by omega, lo_un l fun b hb => h b (List.mem_cons_of_mem _ hb)]
theorem un_lo : ∀ (k x : Nat), x < 256 ^ k → un (lo k x) = x
  | 0, x, h => by simp at h; subst h; rfl
  | k + 1, x, h => by
    show x % 256 + 256 * un (lo k (x / 256)) = x
    rw [un_lo k (x / 256) (by rw [Nat.pow_succ] at h; omega)]
    omega
end Go.Proofs.YtedfjedmapimnaaDoor.Pk
