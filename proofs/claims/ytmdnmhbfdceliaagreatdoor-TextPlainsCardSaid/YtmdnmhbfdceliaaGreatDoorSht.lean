/-
  What the document's readings of the lesser and the greater digits tell; digits taken from a text. Plain.
-/
import Derived.Test.YtmdnmhbfdceliaaGreatDoorShs
import Derived.Test.YtmdnmhbfdceliaaGreatDoorRr6
namespace Go.Proofs.YtmdnmhbfdceliaaGreatDoor
open Flo
open Rd (num den Near exA exX sU sD bot top)
/-- the exact digits are read as the float -/
theorem near_exact {E m : Nat} (h0 : 0 < m) (h1 : m < 9007199254740992) (h2 : E = 0 ∨ 4503599627370496 ≤ m) (hE : E ≤ 2045) :
    Near (num (exA m ((E : Int) - 1074)) (exX ((E : Int) - 1074))) (den (exX ((E : Int) - 1074))) (E * 4503599627370496 + m) := by
  have e2 : ((E : Int) - 1074) - 2 = (E : Int) - 1076 := by omega
  have hx : -((2000 : Nat) : Int) ≤ exX ((E : Int) - 1074) := by unfold exX; split <;> omega
  have hp : -((2000 : Nat) : Int) ≤ ((E : Int) - 1074) - 2 := by omega
  generalize hP : (2000 : Nat) = P at *
  have w := Rd.wh_eq (m := m) (P := P) (Q := P) (p := (E : Int) - 1074) (t := exX ((E : Int) - 1074)) hp hx hx
  rw [e2] at w
  generalize exX ((E : Int) - 1074) = x at *
  generalize exA m ((E : Int) - 1074) = A at *
  have w2 : 4 * m * sU ((E : Int) - 1076) x = A * sD ((E : Int) - 1076) x := by
    apply Nat.eq_of_mul_eq_mul_right (Rd.gg_pos P x)
    rw [w]; exact Nat.mul_right_comm _ _ _
  have ha := Rd.sU_pos ((E : Int) - 1076) x
  refine (Rd.near_units h0 h1 h2).2 ⟨.inl ?_, .inl ?_⟩
  · rw [← w2]; exact Nat.mul_lt_mul_of_pos_right (by unfold bot; split <;> omega) ha
  · rw [← w2]; exact Nat.mul_lt_mul_of_pos_right (by unfold top; omega) ha
theorem low_le {A r low : Nat} {x : Int} (h : low * 10 ^ r ≤ A) : num low (x + (r : Nat)) * den x ≤ num A x * den (x + (r : Nat)) := by
  unfold num den
  rw [Nat.mul_assoc, ← Nat.pow_add, Nat.mul_assoc, ← Nat.pow_add]
  have e : (x + (r : Nat)).toNat + (-x).toNat = r + (x.toNat + (-(x + (r : Nat))).toNat) := by omega
  rw [e, Nat.pow_add, ← Nat.mul_assoc]
  exact Nat.mul_le_mul_right _ h
/-- the lesser one -/
theorem rd_low {A low r s : Nat} {x : Int} {v : Value} (hA : Near (num A x) (den x) s) (hA0 : 0 < A) (hs : s < Rd.inf) (hlow : 0 < low) (hle : low * 10 ^ r ≤ A) (h : rdr low (x + (r : Nat)) v) :
    ∃ (b : Nat) (o : Bool), v = .tuple #[.int .u64 (b : Int), .bool o] ∧ (b = s ↔ Near (num low (x + (r : Nat))) (den (x + (r : Nat))) s) := by
  obtain ⟨b, s1, o, rfl, h1, h2, h3⟩ := h
  have hm := Rd.Sp.mono h1 (Rd.sp_near hA0 hA) (low_le hle) hs
  have ho : o = false := by
    cases o
    · rfl
    · have := h2.1 rfl; omega
  have hb := h3 ho
  refine ⟨b, o, rfl, ?_⟩
  rcases h1 with ⟨e, _⟩ | ⟨_, ⟨_, hn⟩ | ⟨hi, _⟩⟩
  · omega
  · rw [hb]
    exact ⟨fun h => h ▸ hn, fun h => hn.uniq h (Rd.den_pos _)⟩
  · omega
/-- the greater one -/
theorem rd_high {D s : Nat} {y : Int} {v : Value} (hs : s < Rd.inf) (hD : 0 < D) (h : rdr D y v) :
    ∃ (b : Nat) (o : Bool), v = .tuple #[.int .u64 (b : Int), .bool o] ∧ ((b = s ∧ o = false) ↔ Near (num D y) (den y) s) := by
  obtain ⟨b, s1, o, rfl, h1, h2, h3⟩ := h
  refine ⟨b, o, rfl, ?_⟩
  rcases h1 with ⟨e, _⟩ | ⟨_, ⟨hlt, hn⟩ | ⟨hi, hb⟩⟩
  · omega
  · have ho : o = false := by
      cases o
      · rfl
      · have := h2.1 rfl; omega
    have hb := h3 ho
    rw [hb]
    exact ⟨fun h => h.1 ▸ hn, fun h => ⟨hn.uniq h (Rd.den_pos _), ho⟩⟩
  · have ho : o = true := h2.2 hi
    refine ⟨fun h => ?_, fun h => absurd hb (Rd.near_small h hs (Rd.den_pos _))⟩
    rw [ho] at h; cases h.2
/-- the first k digits, and the others -/
theorem dv_split {l : List UInt8} (hd : ∀ b ∈ l, Dg.isD b = true) (k : Nat) : Dg.dv (l.take k) = Dg.dv l / 10 ^ (l.length - k) ∧ Dg.dv (l.drop k) = Dg.dv l % 10 ^ (l.length - k) := by
  have h1 := Dg.dv_append (l.take k) (l.drop k)
  rw [List.take_append_drop] at h1
  have h2 := Dg.dv_lt (l.drop k) (fun b h => hd b (List.mem_of_mem_drop h))
  rw [List.length_drop] at h1 h2
  have hp : 0 < 10 ^ (l.length - k) := Nat.pow_pos (by decide)
  constructor
  · rw [h1, Nat.mul_comm, Nat.mul_add_div hp, Nat.div_eq_of_lt h2, Nat.add_zero]
  · rw [h1, Nat.mul_comm, Nat.mul_add_mod, Nat.mod_eq_of_lt h2]
theorem dv_zeros {l : List UInt8} (hd : ∀ b ∈ l, Dg.isD b = true) : (l.all fun b => b.toNat == 48) = true ↔ Dg.dv l = 0 := by
  have key : ∀ l : List UInt8, (l.all fun b => b.toNat == 48) = true ↔ Dg.tz l = [] := by
    intro l
    induction l with
    | nil => exact ⟨fun _ => rfl, fun _ => rfl⟩
    | cons x l ih =>
      rw [List.all_cons, Bool.and_eq_true, ih]
      show _ ↔ (if x.toNat = 48 then Dg.tz l else x :: l) = []
      by_cases hx : x.toNat = 48
      · rw [if_pos hx]; simp [hx]
      · rw [if_neg hx]; simp [hx]
  rw [key, Dg.tz_zero l hd]
/-- which is nearer, out of the next digit and those behind it -/
theorem tie_iff {l : List UInt8} (hd : ∀ b ∈ l, Dg.isD b = true) {k : Nat} (hk1 : 1 ≤ k) (hk : k < l.length) {x z : UInt8} (hx : l[k]? = some x) (hz : l[k - 1]? = some z) :
    (10 ^ (l.length - k) < 2 * (Dg.dv l % 10 ^ (l.length - k)) ∨ (10 ^ (l.length - k) = 2 * (Dg.dv l % 10 ^ (l.length - k)) ∧ Dg.dv l / 10 ^ (l.length - k) % 2 = 1)) ↔
    (53 < x.toNat ∨ (x.toNat = 53 ∧ (¬ ((l.drop (k + 1)).all (fun b => b.toNat == 48) = true) ∨ (z.toNat - 48) % 2 = 1))) := by
  have s1 := dv_split hd k
  have hdr : l.drop k = x :: l.drop (k + 1) := by
    rw [List.drop_eq_getElem_cons hk]
    congr 1
    rw [List.getElem?_eq_getElem hk] at hx
    exact Option.some.inj hx
  have hx1 := of_decide_eq_true (hd x (List.mem_of_getElem? hx))
  have hz1 := of_decide_eq_true (hd z (List.mem_of_getElem? hz))
  have h3 : Dg.dv (l.drop k) = (x.toNat - 48) * 10 ^ (l.length - (k + 1)) + Dg.dv (l.drop (k + 1)) := by
    rw [hdr]
    have := Dg.dv_append [x] (l.drop (k + 1))
    rw [List.length_drop] at this
    rw [show x :: l.drop (k + 1) = [x] ++ l.drop (k + 1) from rfl, this]
    congr 2
    show 0 * 10 + (x.toNat - 48) = _
    omega
  have h4 := Dg.dv_lt (l.drop (k + 1)) (fun b h => hd b (List.mem_of_mem_drop h))
  rw [List.length_drop] at h4
  have h5 : Dg.dv (l.take k) % 2 = (z.toNat - 48) % 2 := by
    have : l.take k = l.take (k - 1) ++ [z] := by
      have := Dg.take_snoc hz
      rw [show k - 1 + 1 = k by omega] at this
      exact this
    rw [this, Dg.dv_snoc]; omega
  have h6 : 10 ^ (l.length - k) = 10 * 10 ^ (l.length - (k + 1)) := by
    rw [show l.length - k = (l.length - (k + 1)) + 1 by omega, Nat.pow_succ, Nat.mul_comm]
  have h7 := dv_zeros (l := l.drop (k + 1)) (fun b h => hd b (List.mem_of_mem_drop h))
  rw [h7, ← s1.1, ← s1.2, h3, h5, h6]
  generalize Dg.dv (l.drop (k + 1)) = q at *
  generalize 10 ^ (l.length - (k + 1)) = p at *
  obtain ⟨d, hd'⟩ : ∃ d, x.toNat = 48 + d := ⟨x.toNat - 48, by omega⟩
  rw [hd', show 48 + d - 48 = d by omega]
  have hd9 : d ≤ 9 := by omega
  have m1 : d < 5 → d * p + p ≤ 5 * p := fun h => by
    have := Nat.mul_le_mul_right p (show d + 1 ≤ 5 by omega); rw [Nat.add_mul, Nat.one_mul] at this; exact this
  have m2 : 5 < d → 5 * p + p ≤ d * p := fun h => by
    have := Nat.mul_le_mul_right p (show 5 + 1 ≤ d by omega); rw [Nat.add_mul, Nat.one_mul] at this; exact this
  have m3 : d = 5 → d * p = 5 * p := fun h => by rw [h]
  generalize d * p = dp at *
  generalize (z.toNat - 48) % 2 = zz at *
  rcases Nat.lt_trichotomy d 5 with h | h | h
  · have := m1 h; omega
  · have := m3 h; omega
  · have := m2 h; omega
end Go.Proofs.YtmdnmhbfdceliaaGreatDoor
