/-
  Plain: what was written is read again; cut off it is too short.
-/
import Derived.Test.YtjckgcjcpmnhhaaDoorPkf
import Derived.Test.YtjckgcjcpmnhhaaDoorPke
namespace Go.Proofs.YtjckgcjcpmnhhaaDoor
open Flo
theorem btbt (n : Nat) : bt (bt n) = bt n := by
  by_cases h : 9218868437227405312 < n % 9223372036854775808
  · have e : bt n = 9221120237041090560 := if_pos h
    rw [e]; decide
  · have e : bt n = n := if_neg h
    rw [e, e]
theorem nf_back {bs l : List Nat} {k m x : Nat} (h : bs.drop k = Pk.lo m x ++ l) (hx : x < 256 ^ m) : nf bs k m = x := by
  unfold nf
  rw [h, List.take_left' (Pk.lo_len m x)]
  exact Pk.un_lo m x hx
theorem drop_more {bs a l : List Nat} {k m : Nat} (h : bs.drop k = a ++ l) (ha : a.length = m) : bs.drop (k + m) = l := by
  rw [← List.drop_drop, h, List.drop_left' ha]
theorem len_of {bs a l : List Nat} {k : Nat} (h : bs.drop k = a ++ l) : a.length + l.length = bs.length - k := by
  have := congrArg List.length h
  rw [List.length_drop, List.length_append] at this
  exact this.symm
section
variable {bs l : List Nat} {K : Nat}
theorem bk_uint {u : Nat} (hu : u < 18446744073709551616) (h : bs.drop K = Pk.vi u ++ l) : Pk.rv 0 0 (bs.drop K) = .ok (u, (Pk.vi u).length) := by
  rw [h, Pk.rv_read u u 0 0 l (Nat.le_refl _) (by decide) (.inl rfl) (by simpa using hu)]
  simp
theorem bk_float {u : Nat} (hu : u < 18446744073709551616) (h : bs.drop K = Pk.lo 8 (bt u) ++ l) : rfl_ bs K = .ok (bt u, 8) := by
  have h1 := nf_back h (bt_lt hu)
  have h2 := len_of h
  rw [Pk.lo_len] at h2
  unfold rfl_
  rw [if_neg (by omega), h1, if_pos (btbt u)]
theorem bk_complex {u v : Nat} (hu : u < 18446744073709551616) (hv : v < 18446744073709551616) (h : bs.drop K = (Pk.lo 8 (bt u) ++ Pk.lo 8 (bt v)) ++ l) : rcx bs K = .ok ((bt u, bt v), 16) := by
  have h2 := len_of h
  rw [List.length_append, Pk.lo_len, Pk.lo_len] at h2
  rw [List.append_assoc] at h
  have h1 := nf_back h (bt_lt hu)
  have h3 := nf_back (drop_more h (Pk.lo_len _ _)) (bt_lt hv)
  unfold rcx
  rw [if_neg (by omega), h1, h3, if_pos ⟨btbt u, btbt v⟩]
theorem bk_narrow {u v : Nat} (hu : u < 4294967296) (hv : v < 4294967296) (h : bs.drop K = (Pk.lo 4 (bt32 u) ++ Pk.lo 4 (bt32 v)) ++ l) : rnw bs K = .ok ((bt32 u, bt32 v), 8) := by
  have h2 := len_of h
  rw [List.length_append, Pk.lo_len, Pk.lo_len] at h2
  rw [List.append_assoc] at h
  have h1 := nf_back h (bt32_lt hu)
  have h3 := nf_back (drop_more h (Pk.lo_len _ _)) (bt32_lt hv)
  unfold rnw
  rw [if_neg (by omega), h1, h3, if_pos ⟨bt32_bt u, bt32_bt v⟩]
theorem upr_most {most : Int} {c n : Nat} (h : (c : Int) ≤ most) : upr most (.ok (c, n)) = .ok (c, n) := by
  unfold upr
  simp only
  rw [if_neg (by omega)]
theorem bk_text {t : List Nat} (ht : t.length < 18446744073709551616) (h : bs.drop K = (Pk.vi t.length ++ t) ++ l) : rtx (t.length : Int) bs K = .ok (t, (Pk.vi t.length ++ t).length) := by
  have h2 := len_of h
  rw [List.length_append] at h2
  rw [List.append_assoc] at h
  have h1 := bk_uint ht h
  have h3 := drop_more h rfl
  rw [rtx_ok (c := t.length) (n := (Pk.vi t.length).length) (by rw [h1]; exact upr_most (Int.le_refl _)) (by omega), h3, List.take_left' rfl, List.length_append]
theorem go_back {α : Type} {rd : Nat → Except Nat (α × Nat)} {f : α → List Nat} {g : α → α} {e : Nat} {P : α → Prop} (hrd : ∀ k x l, P x → bs.drop k = f x ++ l → rd k = .ok (g x, e)) (hfl : ∀ x, (f x).length = e) :
    ∀ (xs : List α) (k : Nat) (acc : List α) (l : List Nat), (∀ x ∈ xs, P x) → bs.drop k = xs.flatMap f ++ l → go_ rd xs.length k acc = .ok (acc ++ xs.map g, k + e * xs.length)
  | [], k, acc, l, _, _ => by simp [go_zero]
  | x :: r, k, acc, l, hP, h => by
    rw [List.flatMap_cons, List.append_assoc] at h
    have h1 := hrd k x _ (hP x (by simp)) h
    have h2 := go_back hrd hfl r (k + e) (acc ++ [g x]) l (fun y hy => hP y (by simp [hy])) (drop_more h (hfl x))
    rw [List.length_cons, go_ok h1 (by omega), Nat.add_sub_cancel, h2, List.map_cons, List.append_assoc]
    congr 2
    rw [Nat.mul_succ]; omega
theorem go_short {α : Type} {rd : Nat → Except Nat (α × Nat)} {f : α → List Nat} {g : α → α} {e : Nat} {P : α → Prop} (hrd : ∀ k x l, P x → bs.drop k = f x ++ l → rd k = .ok (g x, e)) (hfl : ∀ x, (f x).length = e) (hsh : ∀ k, bs.length - k < e → rd k = .error 0) :
    ∀ (xs : List α) (k : Nat) (acc : List α) (m : Nat), (∀ x ∈ xs, P x) → m < (xs.flatMap f).length → bs.drop k = (xs.flatMap f).take m → go_ rd xs.length k acc = .error 0
  | [], k, acc, m, _, hm, _ => by simp at hm
  | x :: r, k, acc, m, hP, hm, h => by
    have hl := congrArg List.length h
    rw [List.length_drop, List.length_take] at hl
    rw [List.flatMap_cons] at h hm hl
    rw [List.length_append, hfl] at hm hl
    by_cases hme : m < e
    · exact go_err (hsh k (by omega)) (by simp)
    · have h0 : List.take m (f x ++ List.flatMap f r) = f x ++ (List.flatMap f r).take (m - e) := by
        rw [List.take_append, hfl, List.take_of_length_le (by rw [hfl]; omega)]
      rw [h0] at h
      have h1 := hrd k x _ (hP x (by simp)) h
      have h2 := go_short hrd hfl hsh r (k + e) (acc ++ [g x]) (m - e) (fun y hy => hP y (by simp [hy])) (by omega) (drop_more h (hfl x))
      rw [List.length_cons, go_ok h1 (by omega), Nat.add_sub_cancel]
      exact h2
/-- a list of numbers as they are read again -/
theorem bk_list {α : Type} {rd : Nat → Except Nat (α × Nat)} {f : α → List Nat} {g : α → α} {e : Nat} {P : α → Prop} (hrd : ∀ k x l, P x → bs.drop k = f x ++ l → rd k = .ok (g x, e)) (hfl : ∀ x, (f x).length = e)
    (xs : List α) (hP : ∀ x ∈ xs, P x) (hn : xs.length ≤ 1048576) (h : bs.drop K = (Pk.vi xs.length ++ xs.flatMap f) ++ l) : rli rd bs K = .ok (xs.map g, (Pk.vi xs.length ++ xs.flatMap f).length) := by
  rw [List.append_assoc] at h
  have h1 := bk_uint (by omega) h
  have h2 := go_back hrd hfl xs (K + (Pk.vi xs.length).length) [] l hP (drop_more h rfl)
  have h3 : (xs.flatMap f).length = e * xs.length := by
    clear h h1 h2 hP hn
    induction xs with
    | nil => simp
    | cons x r ih => rw [List.flatMap_cons, List.length_append, ih, hfl, List.length_cons, Nat.mul_succ]; omega
  unfold rli
  rw [h1, upr_most (by omega)]
  unfold rlo
  simp only
  rw [h2]
  unfold rl2
  simp only [List.nil_append, List.length_append, h3]
  congr 2
  omega
theorem sh_list {α : Type} {rd : Nat → Except Nat (α × Nat)} {f : α → List Nat} {g : α → α} {e : Nat} {P : α → Prop} (hrd : ∀ k x l, P x → bs.drop k = f x ++ l → rd k = .ok (g x, e)) (hfl : ∀ x, (f x).length = e) (hsh : ∀ k, bs.length - k < e → rd k = .error 0)
    (xs : List α) (hP : ∀ x ∈ xs, P x) (hn : xs.length ≤ 1048576) (m : Nat) (hm : m < (Pk.vi xs.length ++ xs.flatMap f).length) (h : bs = (Pk.vi xs.length ++ xs.flatMap f).take m) : rli rd bs 0 = .error 0 := by
  rw [List.length_append] at hm
  unfold rli
  by_cases hv : m < (Pk.vi xs.length).length
  · have : bs.drop 0 = (Pk.vi xs.length).take m := by rw [List.drop_zero, h, List.take_append_of_le_length (by omega)]
    rw [this, Pk.rv_short xs.length xs.length 0 0 m (Nat.le_refl _) (by decide) (by omega) hv]
    rfl
  · have h0 : bs.drop 0 = Pk.vi xs.length ++ (xs.flatMap f).take (m - (Pk.vi xs.length).length) := by rw [List.drop_zero, h, List.take_append, List.take_of_length_le (by omega)]
    rw [bk_uint (by omega) h0, upr_most (by omega)]
    unfold rlo
    simp only
    rw [go_short hrd hfl hsh xs (0 + (Pk.vi xs.length).length) [] (m - (Pk.vi xs.length).length) hP (by omega) (drop_more h0 rfl)]
    rfl
theorem sh_uint {u m : Nat} (hu : u < 18446744073709551616) (hm : m < (Pk.vi u).length) (h : bs = (Pk.vi u).take m) : Pk.rv 0 0 (bs.drop 0) = .error 0 := by
  rw [List.drop_zero, h]
  exact Pk.rv_short u u 0 0 m (Nat.le_refl _) (by decide) (by simpa using hu) hm
theorem sh_float (h : bs.length - K < 8) : rfl_ bs K = .error 0 := by unfold rfl_; rw [if_pos h]
theorem sh_complex (h : bs.length - K < 16) : rcx bs K = .error 0 := by unfold rcx; rw [if_pos h]
theorem sh_narrow (h : bs.length - K < 8) : rnw bs K = .error 0 := by unfold rnw; rw [if_pos h]
theorem sh_text {t : List Nat} {m : Nat} (ht : t.length < 18446744073709551616) (hm : m < (Pk.vi t.length ++ t).length) (h : bs = (Pk.vi t.length ++ t).take m) : rtx (t.length : Int) bs 0 = .error 0 := by
  rw [List.length_append] at hm
  by_cases hv : m < (Pk.vi t.length).length
  · have : bs = (Pk.vi t.length).take m := by rw [h, List.take_append_of_le_length (by omega)]
    rw [rtx_e (e := 0) (by rw [sh_uint ht hv this]; rfl)]
  · have h0 : bs.drop 0 = Pk.vi t.length ++ t.take (m - (Pk.vi t.length).length) := by rw [List.drop_zero, h, List.take_append, List.take_of_length_le (by omega)]
    have h1 := bk_uint ht h0
    have h2 : bs.length = m := by rw [h, List.length_take, List.length_append]; omega
    exact rtx_s (c := t.length) (n := (Pk.vi t.length).length) (by rw [h1]; exact upr_most (Int.le_refl _)) (by omega)
end
end Go.Proofs.YtjckgcjcpmnhhaaDoor
