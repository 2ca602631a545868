/-
  Listings as plain texts: numbers, words, lines, how they are read. Plain.
-/
import Derived.Test.YtlbnldbelfgokaaDoorSp0
import Derived.Lib.ItoaMem
import Derived.Lib.ItoaLen
import Derived.Lib.AtoiAllCases
import Derived.Lib.Strings
import Derived.Lib.Bytealg
namespace Go.Proofs.YtlbnldbelfgokaaDoor.Li
open Go Go.Lib
def In64 (x : Int) : Prop := -9223372036854775808 ≤ x ∧ x ≤ 9223372036854775807
theorem pu_app : ∀ (l m : List UInt8) (acc : Nat), parseUint10 acc (l ++ m) = match parseUint10 acc l with | .ok a => parseUint10 a m | .«syntax» => .«syntax» | .range => .range
  | [], m, acc => rfl
  | c :: l, m, acc => by
    simp only [List.cons_append, parseUint10]
    by_cases h1 : 48 ≤ c.toNat ∧ c.toNat ≤ 57
    · rw [if_pos h1, if_pos h1]
      by_cases h2 : 1844674407370955162 ≤ acc
      · rw [if_pos h2, if_pos h2]
      · rw [if_neg h2, if_neg h2]
        by_cases h3 : 18446744073709551616 ≤ acc * 10 + (c.toNat - 48)
        · rw [if_pos h3, if_pos h3]
        · rw [if_neg h3, if_neg h3]
          exact pu_app l m _
    · rw [if_neg h1, if_neg h1]
theorem dig_nat {d : Nat} (h : d < 10) : (UInt8.ofNat (48 + d)).toNat = 48 + d := by
  rw [UInt8.toNat_ofNat']; omega
theorem pu_dig {acc d : Nat} (hd : d < 10) (hu : acc * 10 + d < 18446744073709551616) : parseUint10 acc [UInt8.ofNat (48 + d)] = .ok (acc * 10 + d) := by
  simp only [parseUint10, dig_nat hd]
  rw [if_pos (by omega), if_neg (by omega), if_neg (by omega)]
  congr 1; omega
theorem pu_dec (u : Nat) : u < 18446744073709551616 → parseUint10 0 (decDigits u) = .ok u := by
  induction u using Nat.strongRecOn with
  | _ u ih =>
    intro hu
    rw [decDigits]
    by_cases h : u < 10
    · rw [dif_pos h]
      have := pu_dig (acc := 0) h (by omega)
      simpa using this
    · rw [dif_neg h, pu_app, ih (u / 10) (by omega) (by omega)]
      simp only
      rw [pu_dig (Nat.mod_lt _ (by decide)) (by omega)]
      congr 1; omega
/-- the signs of a numeral -/
def isDig (c : UInt8) : Prop := 48 ≤ c.toNat ∧ c.toNat ≤ 57
theorem dec_dig (u : Nat) : ∀ c ∈ decDigits u, isDig c := by
  induction u using Nat.strongRecOn with
  | _ u ih =>
    intro c hc
    rw [decDigits] at hc
    by_cases h : u < 10
    · rw [dif_pos h, List.mem_singleton] at hc
      subst hc; unfold isDig; rw [dig_nat h]; omega
    · rw [dif_neg h, List.mem_append, List.mem_singleton] at hc
      rcases hc with hc | hc
      · exact ih _ (by omega) c hc
      · subst hc; unfold isDig; rw [dig_nat (Nat.mod_lt _ (by decide))]; omega
theorem dec_ne (u : Nat) : decDigits u ≠ [] := by
  rw [decDigits]; split <;> simp
theorem pm_dec {u : Nat} (hu : u < 18446744073709551616) : parseMag (decDigits u) = .ok u := by
  unfold parseMag; rw [if_neg (dec_ne u), pu_dec u hu]
theorem at_it {x : Int} (h : In64 x) : atoiAll (itoa x) = .ok x := by
  obtain ⟨h1, h2⟩ := h
  unfold itoa
  by_cases hx : x < 0
  · rw [if_pos hx, atoiAll_minus, pm_dec (by omega)]
    simp only [signed]
    rw [if_neg (by omega)]; congr 1; omega
  · rw [if_neg hx]
    cases he : decDigits x.toNat with
    | nil => exact absurd he (dec_ne _)
    | cons c r =>
      have hc : isDig c := dec_dig x.toNat c (by rw [he]; simp)
      unfold isDig at hc
      rw [atoiAll_plain c r (by omega) (by omega), ← he, pm_dec (by omega)]
      simp only [signless]
      rw [if_neg (by omega)]; congr 1; omega
theorem it_inj {x y : Int} (hx : In64 x) (hy : In64 y) (h : itoa x = itoa y) : x = y := by
  have h1 := at_it hx
  rw [h, at_it hy] at h1
  injection h1 with h1; exact h1.symm
theorem it_ne (x : Int) : itoa x ≠ [] := by unfold itoa; split <;> simp [dec_ne]
theorem it_sg (x : Int) : ∀ c ∈ itoa x, c ≠ 32 ∧ c ≠ 10 := by
  intro c hc
  unfold itoa at hc
  have hd : isDig c → c ≠ 32 ∧ c ≠ 10 := fun h => ⟨fun e => by subst e; exact absurd h (by unfold isDig; decide), fun e => by subst e; exact absurd h (by unfold isDig; decide)⟩
  split at hc
  · rw [List.mem_cons] at hc
    rcases hc with rfl | hc
    · decide
    · exact hd (dec_dig _ c hc)
  · exact hd (dec_dig _ c hc)
/-- the number that a text is -/
def rdn (w : List UInt8) : Option Int := match atoiAll w with | .ok v => if itoa v = w then some v else none | .«syntax» => none | .range => none
theorem rdn_it {x : Int} (h : In64 x) : rdn (itoa x) = some x := by unfold rdn; rw [at_it h]; simp
theorem rdn_some {w : List UInt8} {x : Int} (h : rdn w = some x) : itoa x = w ∧ In64 x := by
  unfold rdn at h
  cases ha : atoiAll w with
  | ok v =>
    rw [ha] at h
    simp only at h
    by_cases hv : itoa v = w
    · rw [if_pos hv] at h; injection h with h; subst h; exact ⟨hv, atoiAll_bounds ha⟩
    · rw [if_neg hv] at h; cases h
  | «syntax» => rw [ha] at h; cases h
  | range => rw [ha] at h; cases h
theorem rdn_nil : rdn [] = none := rfl
theorem rdn_none {w : List UInt8} (h : rdn w = none) {x : Int} (hx : In64 x) : itoa x ≠ w := fun e => by rw [← e, rdn_it hx] at h; cases h
/-- words -/
def wd (c : UInt8) (l : List UInt8) : List UInt8 := l.takeWhile (· != c)
def rs (c : UInt8) (l : List UInt8) : List UInt8 := l.dropWhile (· != c)
theorem wd_nil (c : UInt8) : wd c [] = [] := rfl
theorem wd_cons (c b : UInt8) (l : List UInt8) : wd c (b :: l) = if b = c then [] else b :: wd c l := by
  unfold wd; rw [List.takeWhile_cons]; by_cases h : b = c <;> simp [h]
theorem rs_cons (c b : UInt8) (l : List UInt8) : rs c (b :: l) = if b = c then b :: l else rs c l := by
  unfold rs; rw [List.dropWhile_cons]; by_cases h : b = c <;> simp [h]
theorem wd_rs (c : UInt8) (l : List UInt8) : wd c l ++ rs c l = l := List.takeWhile_append_dropWhile
theorem rs_head (c : UInt8) : ∀ l : List UInt8, rs c l = [] ∨ ∃ r, rs c l = c :: r
  | [] => .inl rfl
  | b :: l => by
    rw [rs_cons]
    by_cases h : b = c
    · rw [if_pos h]; exact .inr ⟨l, by rw [h]⟩
    · rw [if_neg h]; exact rs_head c l
theorem wd_free (c : UInt8) : ∀ l : List UInt8, c ∉ wd c l
  | [] => by simp [wd_nil]
  | b :: l => by
    rw [wd_cons]
    by_cases h : b = c
    · simp [h]
    · rw [if_neg h, List.mem_cons]
      rintro (e | e)
      · exact h e.symm
      · exact wd_free c l e
/-- what begins with the blank or is empty -/
def Bg (c : UInt8) (l : List UInt8) : Prop := l = [] ∨ ∃ r, l = c :: r
theorem wd_app {c : UInt8} {w m : List UInt8} (hw : c ∉ w) (hm : Bg c m) : wd c (w ++ m) = w ∧ rs c (w ++ m) = m := by
  induction w with
  | nil =>
    rcases hm with rfl | ⟨r, rfl⟩
    · exact ⟨rfl, rfl⟩
    · simp only [List.nil_append]
      rw [wd_cons, rs_cons, if_pos rfl, if_pos rfl]; exact ⟨rfl, rfl⟩
  | cons b w ih =>
    have hb : ¬ b = c := fun e => hw (by rw [e]; exact List.mem_cons_self)
    have := ih fun h => hw (List.mem_cons_of_mem _ h)
    rw [List.cons_append, wd_cons, rs_cons, if_neg hb, if_neg hb, this.1, this.2]
    exact ⟨rfl, rfl⟩
/-- the pieces between bytes c -/
def sp (c : UInt8) : List UInt8 → List (List UInt8)
  | [] => [[]]
  | b :: l => if b = c then [] :: sp c l else match sp c l with | [] => [[b]] | w :: ws => (b :: w) :: ws
def jn (c : UInt8) (ws : List (List UInt8)) : List UInt8 := ws.flatMap fun w => c :: w
theorem jn_bg (c : UInt8) (ws : List (List UInt8)) : Bg c (jn c ws) := by
  cases ws with
  | nil => exact .inl rfl
  | cons w ws => exact .inr ⟨w ++ jn c ws, by simp [jn]⟩
theorem jn_cons (c : UInt8) (w : List UInt8) (ws : List (List UInt8)) : jn c (w :: ws) = c :: (w ++ jn c ws) := by simp [jn]
theorem sp_parts (c : UInt8) : ∀ l : List UInt8, ∃ w ws, sp c l = w :: ws ∧ l = w ++ jn c ws ∧ c ∉ w ∧ ∀ v ∈ ws, c ∉ v
  | [] => ⟨[], [], rfl, rfl, by simp, by simp⟩
  | b :: l => by
    obtain ⟨w, ws, h1, h2, h3, h4⟩ := sp_parts c l
    by_cases hb : b = c
    · refine ⟨[], w :: ws, ?_, ?_, by simp, ?_⟩
      · simp [sp, hb, h1]
      · rw [jn_cons, List.nil_append, hb, ← h2]
      · intro v hv
        rcases List.mem_cons.1 hv with rfl | hv
        · exact h3
        · exact h4 v hv
    · refine ⟨b :: w, ws, ?_, ?_, ?_, h4⟩
      · simp [sp, hb, h1]
      · rw [List.cons_append, ← h2]
      · rw [List.mem_cons]; rintro (e | e)
        · exact hb e.symm
        · exact h3 e
theorem sp_join {c : UInt8} : ∀ (w : List UInt8) (ws : List (List UInt8)), c ∉ w → (∀ v ∈ ws, c ∉ v) → sp c (w ++ jn c ws) = w :: ws
  | [], [], _, _ => rfl
  | [], v :: ws, _, h => by
    rw [List.nil_append, jn_cons]
    simp only [sp, if_pos]
    rw [sp_join v ws (h v List.mem_cons_self) fun u hu => h u (List.mem_cons_of_mem _ hu)]
  | b :: w, ws, h1, h2 => by
    have hb : ¬ b = c := fun e => h1 (by rw [e]; exact List.mem_cons_self)
    rw [List.cons_append]
    simp only [sp, if_neg hb]
    rw [sp_join w ws (fun h => h1 (List.mem_cons_of_mem _ h)) h2]
/-- the fields of a line: letters, numbers -/
def encf : List UInt8 → List Int → List UInt8
  | c :: ls, x :: xs => (if x = 0 then [] else 32 :: c :: itoa x) ++ encf ls xs
  | _, _ => []
/-- as the program reads them -/
def pf : List UInt8 → List UInt8 → Option (List Int × List UInt8)
  | [], r => some ([], r)
  | c :: ls, r => if hasPrefix r [32, c] = true then
      (match rdn (wd 32 (r.drop 2)) with
        | some x => if x = 0 then none else (pf ls (rs 32 (r.drop 2))).map fun p => (x :: p.1, p.2)
        | none => none)
    else (pf ls r).map fun p => (0 :: p.1, p.2)
/-- as the document reads them -/
def dw : List UInt8 → List (List UInt8) → Option (List Int)
  | [], ws => if ws = [] then some [] else none
  | _ :: ls, [] => (dw ls []).map (0 :: ·)
  | c :: ls, w :: ws => if w.head? = some c then
      (match rdn (w.drop 1) with
        | some x => if x = 0 then none else (dw ls ws).map (x :: ·)
        | none => none)
    else (dw ls (w :: ws)).map (0 :: ·)
def whole {α : Type} (o : Option (α × List UInt8)) : Option α := o.bind fun p => if p.2 = [] then some p.1 else none
theorem whole_map {α β : Type} (o : Option (α × List UInt8)) (f : α → β) : whole (o.map fun p => (f p.1, p.2)) = (whole o).map f := by
  cases o with
  | none => rfl
  | some p => simp only [whole, Option.map_some, Option.bind_some]; split <;> simp
theorem hp2 (r : List UInt8) (c : UInt8) : hasPrefix r [32, c] = true ↔ ∃ m, r = 32 :: c :: m := by
  unfold hasPrefix
  rw [List.isPrefixOf_iff_prefix]
  constructor
  · rintro ⟨m, rfl⟩; exact ⟨m, rfl⟩
  · rintro ⟨m, rfl⟩; exact ⟨m, rfl⟩
theorem dw_pf : ∀ (ls : List UInt8) (ws : List (List UInt8)), (∀ c ∈ ls, c ≠ 32) → (∀ w ∈ ws, (32 : UInt8) ∉ w) → dw ls ws = whole (pf ls (jn 32 ws))
  | [], [], _, _ => rfl
  | [], w :: ws, _, _ => by
    rw [jn_cons]
    simp [dw, whole, pf]
  | c :: ls, [], hl, hw => by
    have ih := dw_pf ls [] (fun d hd => hl d (List.mem_cons_of_mem _ hd)) hw
    have e : jn 32 [] = [] := rfl
    rw [e] at ih ⊢
    have hn : ¬ hasPrefix [] [32, c] = true := fun h => by obtain ⟨m, hm⟩ := (hp2 _ _).1 h; cases hm
    rw [dw, pf, if_neg hn, ih, whole_map _ (fun l => (0 : Int) :: l)]
  | c :: ls, w :: ws, hl, hw => by
    have hl' : ∀ d ∈ ls, d ≠ 32 := fun d hd => hl d (List.mem_cons_of_mem _ hd)
    have hc : c ≠ 32 := hl c List.mem_cons_self
    have hws : ∀ v ∈ ws, (32 : UInt8) ∉ v := fun v hv => hw v (List.mem_cons_of_mem _ hv)
    have ih1 := dw_pf ls (w :: ws) hl' hw
    have ih2 := dw_pf ls ws hl' hws
    rw [jn_cons] at ih1 ⊢
    rw [dw, pf]
    by_cases hh : w.head? = some c
    · obtain ⟨m, rfl⟩ : ∃ m, w = c :: m := by cases w with | nil => cases hh | cons b m => simp at hh; exact ⟨m, by rw [hh]⟩
      have hm : (32 : UInt8) ∉ m := fun h => hw _ List.mem_cons_self (List.mem_cons_of_mem _ h)
      have hp : hasPrefix (32 :: (c :: m ++ jn 32 ws)) [32, c] = true := (hp2 _ _).2 ⟨m ++ jn 32 ws, rfl⟩
      rw [if_pos hh, if_pos hp]
      have e1 : (32 :: (c :: m ++ jn 32 ws)).drop 2 = m ++ jn 32 ws := rfl
      obtain ⟨e2, e3⟩ := wd_app hm (jn_bg 32 ws)
      rw [e1, e2, e3]
      simp only [List.drop_succ_cons, List.drop_zero]
      cases rdn m with
      | none => rfl
      | some x =>
        simp only
        by_cases hx : x = 0
        · rw [if_pos hx, if_pos hx]; rfl
        · rw [if_neg hx, if_neg hx, ih2, whole_map _ (fun l => x :: l)]
    · have hp : ¬ hasPrefix (32 :: (w ++ jn 32 ws)) [32, c] = true := fun h => by
        obtain ⟨m, hm⟩ := (hp2 _ _).1 h
        injection hm with _ hm
        cases w with
        | nil =>
          rcases jn_bg 32 ws with e | ⟨r, e⟩
          · rw [e] at hm; cases hm
          · rw [e, List.nil_append] at hm; injection hm with h1 _; exact hc h1.symm
        | cons b w => rw [List.cons_append] at hm; injection hm with h1 _; exact hh (by rw [h1]; rfl)
      rw [if_neg hh, if_neg hp, ih1, whole_map _ (fun l => (0 : Int) :: l)]
/-- the numbers of a first line -/
def ph : Nat → List UInt8 → Option (List Int × List UInt8)
  | 0, r => some ([], r)
  | k + 1, r => match rdn (wd 32 (trimPrefix r [32])) with
    | some x => (ph k (rs 32 (trimPrefix r [32]))).map fun p => (x :: p.1, p.2)
    | none => none
def dh : List (List UInt8) → Option (List Int)
  | [] => some []
  | w :: ws => match rdn w with | some x => (dh ws).map (x :: ·) | none => none
theorem tp1 (m : List UInt8) : trimPrefix (32 :: m) [32] = m := by simp [trimPrefix, hasPrefix]
theorem tp0 : trimPrefix [] [32] = [] := rfl
theorem dh_ph : ∀ (k : Nat) (ws : List (List UInt8)), (∀ w ∈ ws, (32 : UInt8) ∉ w) → whole (ph k (jn 32 ws)) = if ws.length = k then dh ws else none
  | 0, [], _ => rfl
  | 0, w :: ws, _ => by rw [jn_cons]; simp [whole, ph]
  | k + 1, [], _ => by
    have e : jn 32 [] = [] := rfl
    rw [e, ph, tp0, wd_nil, rdn_nil]; simp [whole]
  | k + 1, w :: ws, hw => by
    have hws : ∀ v ∈ ws, (32 : UInt8) ∉ v := fun v hv => hw v (List.mem_cons_of_mem _ hv)
    obtain ⟨e2, e3⟩ := wd_app (hw w List.mem_cons_self) (jn_bg 32 ws)
    rw [jn_cons, ph, tp1, e2, e3, dh, List.length_cons]
    cases rdn w with
    | none => simp [whole]
    | some x =>
      simp only
      rw [whole_map _ (fun l => x :: l), dh_ph k ws hws]
      by_cases hk : ws.length = k
      · rw [if_pos hk, if_pos (by omega)]
      · rw [if_neg hk, if_neg (by omega)]; rfl
/-- there and back -/
theorem encf_bg : ∀ (ls : List UInt8) (xs : List Int), encf ls xs = [] ∨ ∃ c r, c ∈ ls ∧ encf ls xs = 32 :: c :: r
  | [], _ => .inl rfl
  | c :: ls, [] => .inl rfl
  | c :: ls, x :: xs => by
    by_cases hx : x = 0
    · rcases encf_bg ls xs with h | ⟨d, r, hd, h⟩
      · exact .inl (by rw [encf, if_pos hx, h]; rfl)
      · exact .inr ⟨d, r, List.mem_cons_of_mem _ hd, by rw [encf, if_pos hx, h]; rfl⟩
    · exact .inr ⟨c, itoa x ++ encf ls xs, List.mem_cons_self, by rw [encf, if_neg hx]; rfl⟩
theorem it_free (x : Int) : (32 : UInt8) ∉ itoa x := fun h => (it_sg x _ h).1 rfl
theorem pf_back : ∀ (ls : List UInt8) (xs : List Int), ls.Nodup → xs.length = ls.length → (∀ x ∈ xs, In64 x) → pf ls (encf ls xs) = some (xs, [])
  | [], [], _, _, _ => rfl
  | [], x :: xs, _, h, _ => by simp at h
  | c :: ls, [], _, h, _ => by simp at h
  | c :: ls, x :: xs, hn, hl, hx => by
    have ih := pf_back ls xs (List.nodup_cons.1 hn).2 (by simpa using hl) fun y hy => hx y (List.mem_cons_of_mem _ hy)
    rw [encf, pf]
    by_cases h0 : x = 0
    · have hp : ¬ hasPrefix ((if x = 0 then [] else 32 :: c :: itoa x) ++ encf ls xs) [32, c] = true := fun h => by
        obtain ⟨m, hm⟩ := (hp2 _ _).1 h
        rw [if_pos h0, List.nil_append] at hm
        rcases encf_bg ls xs with e | ⟨d, r, hd, e⟩
        · rw [e] at hm; cases hm
        · rw [e] at hm; injection hm with _ hm; injection hm with hm _
          exact (List.nodup_cons.1 hn).1 (by rw [← hm]; exact hd)
      rw [if_neg hp, if_pos h0, List.nil_append, ih, h0]; rfl
    · rw [if_neg h0]
      have hp : hasPrefix (32 :: c :: itoa x ++ encf ls xs) [32, c] = true := (hp2 _ _).2 ⟨_, rfl⟩
      have e1 : (32 :: c :: itoa x ++ encf ls xs).drop 2 = itoa x ++ encf ls xs := rfl
      have hb : Bg 32 (encf ls xs) := by
        rcases encf_bg ls xs with e | ⟨d, r, _, e⟩
        · exact .inl e
        · exact .inr ⟨_, e⟩
      obtain ⟨e2, e3⟩ := wd_app (it_free x) hb
      rw [if_pos hp, e1, e2, e3, rdn_it (hx x List.mem_cons_self)]
      simp only
      rw [if_neg h0, ih]; rfl
theorem pf_inv : ∀ (ls r : List UInt8) (xs : List Int) (m : List UInt8), pf ls r = some (xs, m) → r = encf ls xs ++ m ∧ xs.length = ls.length ∧ ∀ x ∈ xs, In64 x
  | [], r, xs, m, h => by rw [pf] at h; injection h with h; injection h with h1 h2; subst h1; subst h2; simp [encf]
  | c :: ls, r, xs, m, h => by
    rw [pf] at h
    by_cases hp : hasPrefix r [32, c] = true
    · obtain ⟨t, rfl⟩ := (hp2 _ _).1 hp
      rw [if_pos hp] at h
      have e1 : (32 :: c :: t).drop 2 = t := rfl
      rw [e1] at h
      cases hr : rdn (wd 32 t) with
      | none => rw [hr] at h; cases h
      | some x =>
        rw [hr] at h
        simp only at h
        by_cases h0 : x = 0
        · rw [if_pos h0] at h; cases h
        · rw [if_neg h0] at h
          cases hq : pf ls (rs 32 t) with
          | none => rw [hq] at h; cases h
          | some p =>
            obtain ⟨ys, m'⟩ := p
            rw [hq] at h
            simp only [Option.map_some] at h
            injection h with h; injection h with h1 h2
            subst h1; subst h2
            obtain ⟨i1, i2, i3⟩ := pf_inv ls _ _ _ hq
            obtain ⟨j1, j2⟩ := rdn_some hr
            refine ⟨?_, by simp [i2], ?_⟩
            · rw [encf, if_neg h0, List.append_assoc, ← i1, j1, List.cons_append, List.cons_append, wd_rs]
            · intro y hy
              rcases List.mem_cons.1 hy with rfl | hy
              · exact j2
              · exact i3 y hy
    · rw [if_neg hp] at h
      cases hq : pf ls r with
      | none => rw [hq] at h; cases h
      | some p =>
        obtain ⟨ys, m'⟩ := p
        rw [hq] at h
        simp only [Option.map_some] at h
        injection h with h; injection h with h1 h2
        subst h1; subst h2
        obtain ⟨i1, i2, i3⟩ := pf_inv ls _ _ _ hq
        refine ⟨by rw [encf, if_pos rfl]; exact i1, by simp [i2], ?_⟩
        intro y hy
        rcases List.mem_cons.1 hy with rfl | hy
        · exact ⟨by decide, by decide⟩
        · exact i3 y hy
def enh (xs : List Int) : List UInt8 := xs.flatMap fun x => 32 :: itoa x
theorem enh_bg (xs : List Int) : Bg 32 (enh xs) := by
  cases xs with
  | nil => exact .inl rfl
  | cons x xs => exact .inr ⟨itoa x ++ enh xs, by simp [enh]⟩
theorem ph_back : ∀ (xs : List Int), (∀ x ∈ xs, In64 x) → ph xs.length (enh xs) = some (xs, [])
  | [], _ => rfl
  | x :: xs, hx => by
    have e : enh (x :: xs) = 32 :: (itoa x ++ enh xs) := by simp [enh]
    obtain ⟨e2, e3⟩ := wd_app (it_free x) (enh_bg xs)
    rw [e, List.length_cons, ph, tp1, e2, e3, rdn_it (hx x List.mem_cons_self)]
    simp only
    rw [ph_back xs fun y hy => hx y (List.mem_cons_of_mem _ hy)]; rfl
theorem ph_inv : ∀ (k : Nat) (r : List UInt8) (xs : List Int) (m : List UInt8), Bg 32 r → ph k r = some (xs, m) → r = enh xs ++ m ∧ xs.length = k ∧ ∀ x ∈ xs, In64 x
  | 0, r, xs, m, _, h => by rw [ph] at h; injection h with h; injection h with h1 h2; subst h1; subst h2; simp [enh]
  | k + 1, r, xs, m, hb, h => by
    rw [ph] at h
    rcases hb with rfl | ⟨t, rfl⟩
    · rw [tp0, wd_nil, rdn_nil] at h; cases h
    · rw [tp1] at h
      cases hr : rdn (wd 32 t) with
      | none => rw [hr] at h; cases h
      | some x =>
        rw [hr] at h
        simp only at h
        cases hq : ph k (rs 32 t) with
        | none => rw [hq] at h; cases h
        | some p =>
          obtain ⟨ys, m'⟩ := p
          rw [hq] at h
          simp only [Option.map_some] at h
          injection h with h; injection h with h1 h2
          subst h1; subst h2
          obtain ⟨i1, i2, i3⟩ := ph_inv k _ _ _ (rs_head 32 t) hq
          obtain ⟨j1, j2⟩ := rdn_some hr
          refine ⟨?_, by simp [i2], ?_⟩
          · have e : enh (x :: ys) = 32 :: (itoa x ++ enh ys) := by simp [enh]
            rw [e, List.cons_append, List.append_assoc, ← i1, j1, wd_rs]
          · intro y hy
            rcases List.mem_cons.1 hy with rfl | hy
            · exact j2
            · exact i3 y hy
end Go.Proofs.YtlbnldbelfgokaaDoor.Li
