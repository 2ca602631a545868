/-
  The statements' own texts: small, written.
-/
import Derived.Test.YtmfnjmgdindlaaaDoorQg
import Derived.Laws.IdiomStrings
import Derived.Handy
namespace Go.Proofs.YtmfnjmgdindlaaaDoor
open Flo Go.RowKit
theorem one_byte (W : World) (d : Nat) (hd : d < 256) :
    (convert 46 9 (.slice (some ⟨W.heap.size, 0, none⟩) 1 1)).run Tryd.prog (W.alloc (.cells #[.int .u8 (d : Int)] 5)) = .ok (.string (B [UInt8.ofNat d])) (W.alloc (.cells #[.int .u8 (d : Int)] 5)) := by
  have h := run_convert_bytes_back (P := Tryd.prog) (W.alloc (.cells #[.int .u8 (d : Int)] 5)) 46 9 5 ⟨W.heap.size, 0, none⟩ 1 [UInt8.ofNat d] Tryd.underlying46 Tryd.underlying5 Tryd.underlying9 (fun j hj => by
    have : j = 0 := by simp at hj; omega
    subst this
    have e : (UInt8.ofNat d).toNat = d := by rw [UInt8.toNat_ofNat']; exact Nat.mod_eq_of_lt hd
    simp [Addr.add, e])
  exact h
/-- digits of a number -/
structure Ds (n : Nat) (l : List UInt8) : Prop where
  dig : ∀ b ∈ l, Dg.isD b = true
  ne : l ≠ []
  val : Dg.dv l = n
  len : l.length ≤ 20
theorem ofNat_dig {d : Nat} (h : d < 10) : (UInt8.ofNat (48 + d)).toNat = 48 + d := by rw [UInt8.toNat_ofNat']; exact Nat.mod_eq_of_lt (by omega)
theorem dv_cons (x : UInt8) (l : List UInt8) : Dg.dv (x :: l) = (x.toNat - 48) * 10 ^ l.length + Dg.dv l := by
  have e : Dg.dv (x :: l) = Dg.dv [x] * 10 ^ l.length + Dg.dv l := Dg.dv_append [x] l
  rw [e]; simp [Dg.dv]
theorem isD_of {d : Nat} (h : d < 10) : Dg.isD (UInt8.ofNat (48 + d)) = true := by
  unfold Dg.isD; rw [ofNat_dig h]; exact decide_eq_true (by omega)
/-- on the way: k is what is left, its last digit written -/
structure Dn (n k : Nat) (l : List UInt8) : Prop where
  dig : ∀ b ∈ l, Dg.isD b = true
  ne : l ≠ []
  val : Dg.dv l + k / 10 * 10 ^ l.length = n
  lt : k < 10 ^ (19 - l.length)
theorem Dn.step {n k : Nat} {l : List UInt8} (h : Dn n k l) (h9 : 9 < k) : Dn n (k / 10) (UInt8.ofNat (48 + k / 10 % 10) :: l) ∧ l.length + 1 ≤ 19 := by
  have hlen : l.length + 2 ≤ 19 := by
    apply Nat.le_of_not_lt
    intro hc
    have : 10 ^ (19 - l.length) ≤ 10 ^ 1 := Nat.pow_le_pow_right (by decide) (by omega)
    have := h.lt
    omega
  have hlt : k / 10 % 10 < 10 := by omega
  refine ⟨⟨?_, by simp, ?_, ?_⟩, by omega⟩
  · intro b hb
    rcases List.mem_cons.1 hb with h1 | h1
    · rw [h1]; exact isD_of hlt
    · exact h.dig b h1
  · rw [dv_cons, ofNat_dig hlt, List.length_cons, Nat.pow_succ, show 48 + k / 10 % 10 - 48 = k / 10 % 10 by omega]
    have h1 := h.val
    generalize 10 ^ l.length = P at *
    have h2 : k / 10 / 10 * (P * 10) = k / 10 / 10 * 10 * P := by ac_rfl
    have h3 : k / 10 = k / 10 / 10 * 10 + k / 10 % 10 := by omega
    have h4 : k / 10 * P = k / 10 / 10 * 10 * P + k / 10 % 10 * P := by rw [← Nat.add_mul, ← h3]
    omega
  · rw [List.length_cons]
    have h1 := h.lt
    obtain ⟨r, hr⟩ : ∃ r, 19 - l.length = r + 1 := ⟨18 - l.length, by omega⟩
    rw [show 19 - (l.length + 1) = r by omega]
    rw [hr, Nat.pow_succ] at h1
    omega
theorem Dn.fin {n k : Nat} {l : List UInt8} (h : Dn n k l) (hl : l.length ≤ 20) (h9 : k ≤ 9) : Ds n l :=
  ⟨h.dig, h.ne, by have := h.val; rw [show k / 10 = 0 by omega, Nat.zero_mul, Nat.add_zero] at this; exact this, hl⟩
set_option maxRecDepth 100000 in
set_option maxHeartbeats 400000 in
theorem small_c (n : Nat) (w : World) (hn : Hid (n < 10 ^ 18)) :
    Calls Tryd.prog 21 #[.int .i64 n] w fun e w' => ∃ l, e = .returned (.string (B l)) ∧ Ds n l ∧ Below w.heap.size w w' := by
  have hn' : n < 1000000000000000000 := hn.out
  have hcv := one_byte w (48 + n % 10) (by omega)
  have hI : (48 : Int) + (n : Int) % 10 = ((48 + n % 10 : Nat) : Int) := by omega
  have hlt : n % 10 < 10 := by omega
  have hst : Hid (Dg.dv [UInt8.ofNat (48 + n % 10)] + n / 10 * 10 ^ 1 = n) := by
    show _ = _
    rw [dv_cons, ofNat_dig hlt, Dg.dv_nil]
    simp
    omega
  have hdg : Hid (∀ b ∈ [UInt8.ofNat (48 + n % 10)], Dg.isD b = true) := fun b hb => by
    rw [List.mem_singleton] at hb; rw [hb]; exact isD_of hlt
  generalize 48 + n % 10 = d at hcv hI hst hdg
  have hdl : d < 256 := by omega
  go_enter Tryd.func21, Tryd.ntmps21
  go_wp2
  go_loopw [0, 3] (fun sn ss wr => ∃ (k : Nat) (l : List UInt8), k ≤ n ∧ l.length ≤ 19 ∧ sn = .int .i64 k ∧ ss = .string (B l) ∧ Hid (Dn n k l) ∧ Hid (Below w.heap.size w wr)) (fun sn _ _ => (intOf sn).toNat)
  case atStart =>
    refine ⟨n, [UInt8.ofNat d], Nat.le_refl _, by simp, rfl, rfl, ⟨hdg.out, by simp, hst.out, ?_⟩, (Below.refl _ _).alloc (Nat.le_refl _) _⟩
    exact hn.out
  case round =>
    obtain ⟨k, l, hk, hl, rfl, rfl, hd, hb⟩ := hrel
    clear hcv hst hdg hI
    by_cases h9 : 9 < k
    · have h9' : (9 : Int) < (k : Int) := by omega
      have hnx := hd.out.step h9
      obtain ⟨q, hq⟩ : ∃ q : Nat, q = k / 10 := ⟨_, rfl⟩
      have hw : Hid ((k : Int) / 10 = (q : Int)) := (by omega : (k : Int) / 10 = (q : Int))
      rw [← hq] at hnx
      have hqk : q < k := by omega
      have hqn : q ≤ n := by omega
      clear hq
      have hcv := one_byte wr (48 + q % 10) (by omega)
      have hI : (48 : Int) + (q : Int) % 10 = ((48 + q % 10 : Nat) : Int) := by omega
      have hbn : Hid (Below w.heap.size w (wr.alloc (.cells #[.int .u8 ((48 + q % 10 : Nat) : Int)] 5))) := hb.out.alloc hb.out.size _
      have hnH : Hid (Dn n q (UInt8.ofNat (48 + q % 10) :: l)) := hnx.1
      have hl1 : l.length + 1 ≤ 19 := hnx.2
      have hsz : (B l).size = l.length := B_size l
      have hsz1 : (B [UInt8.ofNat (48 + q % 10)]).size = 1 := B_size _
      have hap : Hid (B [UInt8.ofNat (48 + q % 10)] ++ B l = B (UInt8.ofNat (48 + q % 10) :: l)) := B_append _ _
      have hlt : 48 + q % 10 < 256 := by omega
      generalize 48 + q % 10 = d' at hcv hI hnH hbn hsz1 hap hlt
      have hdl : d' < 256 := by omega
      clear hnx hd hb
      go_wp2
      rw [hw.out, hI, hcv]
      clear hw hI
      go_wp2
      go_roundw
      case rel => exact ⟨q, UInt8.ofNat d' :: l, hqn, hl1, rfl, by rw [hap.out], hnH, hbn⟩
      case measure => simp [intOf]; exact hqk
    · have h9' : ¬ ((9 : Int) < (k : Int)) := by omega
      have hfin : Hid (Ds n l) := hd.out.fin (by omega) (by omega)
      have hb2 : Hid (Below w.heap.size w wr) := hb
      go_wp2
      go_ret
      exact ⟨l, rfl, hfin.out, hb2.out⟩
end Go.Proofs.YtmfnjmgdindlaaaDoor
/-
  written(false, nil, x).
-/
namespace Go.Proofs.YtmfnjmgdindlaaaDoor
open Flo Go.RowKit
/-- an exponent's text -/
def exl (x : Int) (el : List UInt8) : List UInt8 := 101 :: ((if x < 0 then [45] else []) ++ el)
set_option maxRecDepth 100000 in
set_option maxHeartbeats 400000 in
theorem written_neg (n : Nat) (w : World) (h0 : 0 < n) (h1 : n ≤ 100000) :
    Calls Tryd.prog 10 #[.bool false, .slice none 0 0, .int .i64 (-(n : Int))] w fun e w' => ∃ el, e = .returned (.string (B (101 :: 45 :: el))) ∧ Ds n el ∧ Below w.heap.size w w' := by
  have hn : -(n : Int) < 0 := by omega
  have hs : Hid (∀ w, Calls Tryd.prog 21 #[.int .i64 n] w fun e w' => ∃ l, e = .returned (.string (B l)) ∧ Ds n l ∧ Below w.heap.size w w') := fun w => small_c n w (Nat.lt_of_le_of_lt h1 (by decide))
  go_enter Tryd.func10, Tryd.ntmps10
  go_wp2_with fail
  go_loop [7, 13] (fun s i => s = .string ⟨#[]⟩ ∧ i = .int .i64 0) (fun _ _ => 0)
  case atStart => exact ⟨rfl, rfl⟩
  case round =>
    obtain ⟨rfl, rfl⟩ := hrel
    go_wp2_with fail
    refine Calls.mono (hs.out _) ?_
    rintro e w1 ⟨el, rfl, hd, hb⟩
    have hdl : el.length ≤ 20 := hd.len
    have hsz : (B el).size = el.length := B_size el
    have hdH : Hid (Ds n el) := hd
    have hbH : Hid (Below w.heap.size w w1) := hb
    have hap : Hid (∀ m : List UInt8, (⟨m.toArray⟩ : ByteArray) ++ B el = B (m ++ el)) := fun m => B_append m el
    clear hd hb hs
    go_wp2
    go_ret
    exact ⟨el, by first | exact congrArg (fun z => Exit.returned (.string z)) (hap.out _) | rfl | skip, hdH.out, hbH.out⟩
set_option maxRecDepth 100000 in
set_option maxHeartbeats 400000 in
theorem written_pos (n : Nat) (w : World) (h1 : n ≤ 100000) :
    Calls Tryd.prog 10 #[.bool false, .slice none 0 0, .int .i64 (n : Int)] w fun e w' => ∃ el, e = .returned (.string (B (101 :: el))) ∧ Ds n el ∧ Below w.heap.size w w' := by
  have hn : ¬ ((n : Int) < 0) := by omega
  have hs : Hid (∀ w, Calls Tryd.prog 21 #[.int .i64 n] w fun e w' => ∃ l, e = .returned (.string (B l)) ∧ Ds n l ∧ Below w.heap.size w w') := fun w => small_c n w (Nat.lt_of_le_of_lt h1 (by decide))
  go_enter Tryd.func10, Tryd.ntmps10
  go_wp2_with fail
  go_loop [7, 13] (fun s i => s = .string ⟨#[]⟩ ∧ i = .int .i64 0) (fun _ _ => 0)
  case atStart => exact ⟨rfl, rfl⟩
  case round =>
    obtain ⟨rfl, rfl⟩ := hrel
    go_wp2_with fail
    refine Calls.mono (hs.out _) ?_
    rintro e w1 ⟨el, rfl, hd, hb⟩
    have hdl : el.length ≤ 20 := hd.len
    have hsz : (B el).size = el.length := B_size el
    have hdH : Hid (Ds n el) := hd
    have hbH : Hid (Below w.heap.size w w1) := hb
    have hap : Hid (∀ m : List UInt8, (⟨m.toArray⟩ : ByteArray) ++ B el = B (m ++ el)) := fun m => B_append m el
    clear hd hb hs
    go_wp2
    go_ret
    exact ⟨el, by first | exact congrArg (fun z => Exit.returned (.string z)) (hap.out _) | rfl | skip, hdH.out, hbH.out⟩
theorem written_c (x : Int) (w : World) (h1 : -100000 ≤ x) (h2 : x ≤ 100000) :
    Calls Tryd.prog 10 #[.bool false, .slice none 0 0, .int .i64 x] w fun e w' => ∃ el, e = .returned (.string (B (exl x el))) ∧ Ds x.natAbs el ∧ Below w.heap.size w w' := by
  by_cases hx : x < 0
  · obtain ⟨n, hn⟩ : ∃ n : Nat, x = -(n : Int) := ⟨x.natAbs, by omega⟩
    have e1 : x.natAbs = n := by omega
    rw [e1]
    subst hn
    refine Calls.mono (written_neg n w (by omega) (by omega)) ?_
    rintro e w' ⟨el, rfl, h, hb⟩
    exact ⟨el, by unfold exl; rw [if_pos hx]; rfl, h, hb⟩
  · obtain ⟨n, hn⟩ : ∃ n : Nat, x = (n : Int) := ⟨x.natAbs, by omega⟩
    have e1 : x.natAbs = n := by omega
    rw [e1]
    subst hn
    refine Calls.mono (written_pos n w (by omega)) ?_
    rintro e w' ⟨el, rfl, h, hb⟩
    exact ⟨el, by unfold exl; rw [if_neg hx]; rfl, h, hb⟩
end Go.Proofs.YtmfnjmgdindlaaaDoor
/-
  decimalOf: a decimal text taken apart.
-/
namespace Go.Proofs.YtmfnjmgdindlaaaDoor
open Flo Go.RowKit
/-- the fraction: its digits, what is behind, whether it is right -/
def fra (l : List UInt8) : List UInt8 × List UInt8 × Bool :=
  if (cut1 46 l).2 then ((cut1 46 l).1.take (Dg.rl (cut1 46 l).1), (cut1 46 l).1.drop (Dg.rl (cut1 46 l).1), decide (0 < Dg.rl (cut1 46 l).1)) else ([], l, true)
/-- the exponent: its number, what is behind, whether it is right -/
def xpo (l : List UInt8) : Int × List UInt8 × Bool := if (cut1 101 l).2 then cx (cut1 101 l).1 else (0, l, true)
/-- a decimal text: its sign, its digits, its power of ten -/
def prs (l : List UInt8) : Option (Bool × List UInt8 × Int) :=
  if 400 < l.length then none else
  let t := (cut1 45 l).1
  if Dg.rl t = 0 then none else
  let f := fra (t.drop (Dg.rl t))
  if f.2.2 = false then none else
  let x := xpo f.2.1
  if x.2.2 = false then none else
  if x.2.1 ≠ [] then none else some ((cut1 45 l).2, t.take (Dg.rl t) ++ f.1, x.1 - (f.1.length : Int))
def dres : Option (Bool × List UInt8 × Int) → Value
  | none => .tuple #[.agg #[.bool false, .string ⟨#[]⟩, .int .i64 0], .bool false]
  | some (m, ds, p) => .tuple #[.agg #[.bool m, .string (B (Dg.tz ds)), .int .i64 p], .bool true]
set_option maxRecDepth 100000 in
set_option maxHeartbeats 400000 in
theorem decimalOf_long (l : List UInt8) (w : World) (hl : 400 < l.length) :
    Calls Tryd.prog 19 #[.string (B l)] w fun e w' => e = .returned (dres (prs l)) ∧ Below w.heap.size w w' := by
  have hsz : (B l).size = l.length := B_size l
  have h400' : (400 : Int) < (l.length : Int) := by omega
  have hp : Hid (prs l = none) := by show _ = _; unfold prs; rw [if_pos hl]
  go_enter Tryd.func19, Tryd.ntmps19
  go_wp2
  go_returns
  rw [hp.out]
  exact ⟨rfl, (Below.refl _ _).alloc (Nat.le_refl _) _⟩
theorem cut1_not {c : UInt8} {l : List UInt8} (h : (cut1 c l).2 = false) : (cut1 c l).1 = l := by
  cases l with
  | nil => rfl
  | cons x l =>
    simp only [cut1] at h ⊢
    split at h
    · cases h
    · rename_i hx; rw [if_neg hx]
theorem bl3 {w X : World} (hb : Below w.heap.size w X) (a b c : Value) : Below w.heap.size w (((X.setCell ⟨w.heap.size, 0, none⟩ a).setCell ⟨w.heap.size, 1, none⟩ b).setCell ⟨w.heap.size, 2, none⟩ c) :=
  ((hb.setCell (Nat.le_refl _) _).setCell (Nat.le_refl _) _).setCell (Nat.le_refl _) _
theorem cx_le (l : List UInt8) : -9999 ≤ (cx l).1 ∧ (cx l).1 ≤ 9999 := by
  have h := exf_le ((cut1 45 l).1.take (Dg.rl (cut1 45 l).1))
  unfold cx
  simp only
  split <;> omega
set_option maxRecDepth 100000 in
set_option maxHeartbeats 400000 in
theorem decimalOf_short (l : List UInt8) (w : World) (hl : l.length ≤ 400) :
    Calls Tryd.prog 19 #[.string (B l)] w fun e w' => e = .returned (dres (prs l)) ∧ Below w.heap.size w w' := by
  have hsz : (B l).size = l.length := B_size l
  have h400' : ¬ ((400 : Int) < (l.length : Int)) := by omega
  have hlt := cut1_len 45 l
  obtain ⟨t, ht⟩ : ∃ t, Hid (t = (cut1 45 l).1) := ⟨_, rfl⟩
  obtain ⟨mi, hmi⟩ : ∃ mi, Hid (mi = (cut1 45 l).2) := ⟨_, rfl⟩
  obtain ⟨k, hk⟩ : ∃ k, Hid (k = Dg.rl t) := ⟨_, rfl⟩
  have htl : t.length ≤ 400 := by rw [ht.out]; omega
  have hp0 : Hid (prs l = if k = 0 then none else if (fra (t.drop k)).2.2 = false then none else if (xpo (fra (t.drop k)).2.1).2.2 = false then none else if (xpo (fra (t.drop k)).2.1).2.1 ≠ [] then none else some (mi, t.take k ++ (fra (t.drop k)).1, (xpo (fra (t.drop k)).2.1).1 - ((fra (t.drop k)).1.length : Int))) := by
    show _ = _
    unfold prs
    rw [if_neg (by omega), hk.out, ht.out, hmi.out]
  have hc1 : Hid (∀ w, Calls Tryd.prog 31 #[.string (B l), .string ⟨#[45]⟩] w fun e w' => e = .returned (.tuple #[.string (B t), .bool mi]) ∧ w = w') := fun w => by rw [ht.out, hmi.out]; exact cutPrefix_c 45 l w
  have hc2 : Hid (∀ w, Calls Tryd.prog 32 #[.string (B t)] w fun e w' => e = .returned (.tuple #[.string (B (t.take k)), .string (B (t.drop k)), .bool (decide (0 < k))]) ∧ ∃ q, w' = w.drewN q) := fun w => by rw [hk.out]; exact cutDigits_l t w (by omega)
  go_enter Tryd.func19, Tryd.ntmps19
  go_wp2_with fail
  refine (hc1.out _).mono ?_
  rintro e w' ⟨rfl, rfl⟩
  go_wp2_with fail
  refine (hc2.out _).mono ?_
  rintro e w' ⟨rfl, q1, rfl⟩
  by_cases hk0 : k = 0
  · have hd0 : decide (0 < k) = false := decide_eq_false (by omega)
    have hp : Hid (prs l = none) := by show _ = _; rw [hp0.out, if_pos hk0]
    rw [hd0]
    clear hd0 hk0
    go_wp2
    go_returns
    rw [hp.out]
    exact ⟨by first | rfl | simp [dres], bl3 (by repeat (first | exact (Below.refl _ _).alloc (Nat.le_refl _) _ | apply below_drewN)) _ _ _⟩
  · have hd0 : decide (0 < k) = true := decide_eq_true (by omega)
    have hp1 : Hid (prs l = _) := hp0.out.trans (if_neg hk0)
    rw [hd0]
    clear hd0 hk0 hp0
    have hcw : (B (t.take k)).size ≤ 400 := by rw [B_size]; simp; omega
    obtain ⟨t1, ht1⟩ : ∃ t1, t1 = t.drop k := ⟨_, rfl⟩
    have ht1l : t1.length ≤ 400 := by rw [ht1]; simp; omega
    rw [← ht1] at hp1 ⊢
    clear ht1
    obtain ⟨r, hr⟩ : ∃ r, Hid (r = (cut1 46 t1).1) := ⟨_, rfl⟩
    obtain ⟨dot, hdot⟩ : ∃ dot, Hid (dot = (cut1 46 t1).2) := ⟨_, rfl⟩
    have hc3 : Hid (∀ w, Calls Tryd.prog 31 #[.string (B t1), .string ⟨#[46]⟩] w fun e w' => e = .returned (.tuple #[.string (B r), .bool dot]) ∧ w = w') := fun w => by rw [hr.out, hdot.out]; exact cutPrefix_c 46 t1 w
    have hrl : Hid (r.length ≤ 400) := by have h := cut1_len 46 t1; show _ ≤ _; rw [hr.out]; omega
    go_wp2_with fail
    refine (hc3.out _).mono ?_
    rintro e w' ⟨rfl, rfl⟩
    clear hc3
    cases dot with
    | true =>
      obtain ⟨k2, hk2⟩ : ∃ k2, Hid (k2 = Dg.rl r) := ⟨_, rfl⟩
      have hf : Hid (fra t1 = (r.take k2, r.drop k2, decide (0 < k2))) := by show _ = _; unfold fra; rw [← hdot.out, if_pos rfl, ← hr.out, hk2.out]
      have hc4 : Hid (∀ w, Calls Tryd.prog 32 #[.string (B r)] w fun e w' => e = .returned (.tuple #[.string (B (r.take k2)), .string (B (r.drop k2)), .bool (decide (0 < k2))]) ∧ ∃ q, w' = w.drewN q) := fun w => by rw [hk2.out]; exact cutDigits_l r w (by have := hrl.out; omega)
      go_wp2_with fail
      refine (hc4.out _).mono ?_
      rintro e w' ⟨rfl, q2, rfl⟩
      clear hc4
      by_cases hk20 : k2 = 0
      · have hd0 : decide (0 < k2) = false := decide_eq_false (by omega)
        have hp : Hid (prs l = none) := by show _ = _; rw [hp1.out, hf.out, hd0]; rfl
        rw [hd0]
        clear hd0 hk20
        go_wp2
        go_returns
        rw [hp.out]
        exact ⟨by first | rfl | simp [dres], bl3 (by repeat (first | exact (Below.refl _ _).alloc (Nat.le_refl _) _ | apply below_drewN)) _ _ _⟩
      · have hd0 : decide (0 < k2) = true := decide_eq_true (by omega)
        rw [hd0] at hf ⊢
        obtain ⟨fr, hfr⟩ : ∃ fr, fr = r.take k2 := ⟨_, rfl⟩
        obtain ⟨t2, ht2⟩ : ∃ t2, t2 = r.drop k2 := ⟨_, rfl⟩
        have hfrl : Hid (fr.length ≤ 400) := by show _ ≤ _; rw [hfr]; simp; have := hrl.out; omega
        have ht2l : Hid (t2.length ≤ 400) := by show _ ≤ _; rw [ht2]; simp; have := hrl.out; omega
        rw [← hfr, ← ht2] at hf ⊢
        clear hd0 hk20 hfr ht2
        have hfsz : (B fr).size = fr.length := B_size fr
        have hfl : fr.length ≤ 400 := hfrl.out
        have hpf : Hid (prs l = if (xpo t2).2.2 = false then none else if (xpo t2).2.1 ≠ [] then none else some (mi, t.take k ++ fr, (xpo t2).1 - (fr.length : Int))) := by show _ = _; rw [hp1.out, hf.out]; rfl
        clear hp1
        have hcat : Hid (B (t.take k) ++ B fr = B (t.take k ++ fr)) := by show _ = _; exact B_append _ _
        have hcl : Hid ((t.take k ++ fr).length ≤ 1000) := by show _ ≤ _; simp; have := hfrl.out; omega
        obtain ⟨r2, hr2⟩ : ∃ r2, Hid (r2 = (cut1 101 t2).1) := ⟨_, rfl⟩
        obtain ⟨ee, hee⟩ : ∃ ee, Hid (ee = (cut1 101 t2).2) := ⟨_, rfl⟩
        have hc5 : Hid (∀ w, Calls Tryd.prog 31 #[.string (B t2), .string ⟨#[101]⟩] w fun e w' => e = .returned (.tuple #[.string (B r2), .bool ee]) ∧ w = w') := fun w => by rw [hr2.out, hee.out]; exact cutPrefix_c 101 t2 w
        have hr2l : Hid (r2.length ≤ 1000) := by have h := cut1_len 101 t2; show _ ≤ _; rw [hr2.out]; have := ht2l.out; omega
        go_wp2_with fail
        refine (hc5.out _).mono ?_
        rintro e w' ⟨rfl, rfl⟩
        clear hc5
        cases ee with
        | true =>
          have hx : Hid (xpo t2 = cx r2) := by show _ = _; unfold xpo; rw [← hee.out, if_pos rfl, hr2.out]
          have hcx := cx_le r2
          have hc6 : Hid (∀ w, Calls Tryd.prog 33 #[.string (B r2)] w fun e w' => e = .returned (.tuple #[.int .i64 (cx r2).1, .string (B (cx r2).2.1), .bool (cx r2).2.2]) ∧ ∃ q, w' = w.drewN q) := fun w => cutExponent_c r2 w hr2l.out
          generalize hcx3 : cx r2 = y3 at hx hcx hc6
          clear hcx3
          obtain ⟨x, t3, ok3⟩ := y3
          have hx1 : -9999 ≤ x := hcx.1
          have hx2 : x ≤ 9999 := hcx.2
          clear hcx
          go_wp2_with fail
          refine (hc6.out _).mono ?_
          rintro e w' ⟨rfl, q3, rfl⟩
          clear hc6
          cases ok3 with
          | false =>
            have hp : Hid (prs l = none) := by show _ = _; rw [hpf.out, hx.out]; rfl
            go_wp2
            go_returns
            rw [hp.out]
            exact ⟨by first | rfl | simp [dres], bl3 (by repeat (first | exact (Below.refl _ _).alloc (Nat.le_refl _) _ | apply below_drewN)) _ _ _⟩
          | true =>
            have hok : t3 = [] → Hid (prs l = some (mi, t.take k ++ fr, x - (fr.length : Int))) := fun h => by show _ = _; rw [hpf.out, hx.out]; simp [h]
            have hbad : t3 ≠ [] → Hid (prs l = none) := fun h => by show _ = _; rw [hpf.out, hx.out]; simp [h]
            by_cases h3 : t3 = []
            · have hE : (B t3).toList.isEmpty = true := by rw [B_toList, h3]; rfl
              have hp : Hid (prs l = some (mi, t.take k ++ fr, x - (fr.length : Int))) := hok h3
              clear hok h3
              go_wp2_with fail
              rw [hcat.out]
              refine (trimLeft_c (t.take k ++ fr) _ hcl.out).mono ?_
              rintro e w' ⟨rfl, rfl⟩
              go_wp2
              go_returns
              rw [hp.out]
              exact ⟨by first | rfl | simp [dres], bl3 (by repeat (first | exact (Below.refl _ _).alloc (Nat.le_refl _) _ | apply below_drewN)) _ _ _⟩
            · have hE : (B t3).toList.isEmpty = false := by rw [B_toList]; cases h : t3 with | nil => exact absurd h h3 | cons a b => rfl
              have hp : Hid (prs l = none) := hbad h3
              clear hok hbad h3
              go_wp2
              go_returns
              rw [hp.out]
              exact ⟨by first | rfl | simp [dres], bl3 (by repeat (first | exact (Below.refl _ _).alloc (Nat.le_refl _) _ | apply below_drewN)) _ _ _⟩
        | false =>
          have hx : Hid (xpo t2 = (0, t2, true)) := by show _ = _; unfold xpo; rw [← hee.out]; rfl
          have hr2e : Hid (r2 = t2) := by show _ = _; rw [hr2.out]; exact cut1_not hee.out.symm
          have hok : t2 = [] → Hid (prs l = some (mi, t.take k ++ fr, 0 - (fr.length : Int))) := fun h => by show _ = _; rw [hpf.out, hx.out]; simp [h]
          have hbad : t2 ≠ [] → Hid (prs l = none) := fun h => by show _ = _; rw [hpf.out, hx.out]; simp [h]
          by_cases h3 : t2 = []
          · have hE : (B t2).toList.isEmpty = true := by rw [B_toList, h3]; rfl
            have hp : Hid (prs l = some (mi, t.take k ++ fr, 0 - (fr.length : Int))) := hok h3
            clear hok h3
            go_wp2_with fail
            rw [hcat.out]
            refine (trimLeft_c (t.take k ++ fr) _ hcl.out).mono ?_
            rintro e w' ⟨rfl, rfl⟩
            go_wp2
            go_returns
            rw [hp.out]
            exact ⟨by first | rfl | simp [dres], bl3 (by repeat (first | exact (Below.refl _ _).alloc (Nat.le_refl _) _ | apply below_drewN)) _ _ _⟩
          · have hE : (B t2).toList.isEmpty = false := by rw [B_toList]; cases h : t2 with | nil => exact absurd h h3 | cons a b => rfl
            have hp : Hid (prs l = none) := hbad h3
            clear hok hbad h3
            go_wp2
            go_returns
            rw [hp.out]
            exact ⟨by first | rfl | simp [dres], bl3 (by repeat (first | exact (Below.refl _ _).alloc (Nat.le_refl _) _ | apply below_drewN)) _ _ _⟩
    | false =>
      have hf : Hid (fra t1 = ([], t1, true)) := by show _ = _; unfold fra; rw [← hdot.out]; rfl
      have ht2l : Hid (t1.length ≤ 400) := ht1l
      have hpf : Hid (prs l = if (xpo t1).2.2 = false then none else if (xpo t1).2.1 ≠ [] then none else some (mi, t.take k ++ [], (xpo t1).1 - (([] : List UInt8).length : Int))) := by show _ = _; rw [hp1.out, hf.out]; rfl
      clear hp1
      have hcat : Hid (B (t.take k) ++ (⟨#[]⟩ : ByteArray) = B (t.take k ++ [])) := by show _ = _; exact B_append (t.take k) []
      have hcl : Hid ((t.take k ++ []).length ≤ 1000) := by show _ ≤ _; simp; omega
      obtain ⟨r2, hr2⟩ : ∃ r2, Hid (r2 = (cut1 101 t1).1) := ⟨_, rfl⟩
      obtain ⟨ee, hee⟩ : ∃ ee, Hid (ee = (cut1 101 t1).2) := ⟨_, rfl⟩
      have hc5 : Hid (∀ w, Calls Tryd.prog 31 #[.string (B t1), .string ⟨#[101]⟩] w fun e w' => e = .returned (.tuple #[.string (B r2), .bool ee]) ∧ w = w') := fun w => by rw [hr2.out, hee.out]; exact cutPrefix_c 101 t1 w
      have hr2l : Hid (r2.length ≤ 1000) := by have h := cut1_len 101 t1; show _ ≤ _; rw [hr2.out]; have := ht2l.out; omega
      go_wp2_with fail
      refine (hc5.out _).mono ?_
      rintro e w' ⟨rfl, rfl⟩
      clear hc5
      cases ee with
      | true =>
        have hx : Hid (xpo t1 = cx r2) := by show _ = _; unfold xpo; rw [← hee.out, if_pos rfl, hr2.out]
        have hcx := cx_le r2
        have hc6 : Hid (∀ w, Calls Tryd.prog 33 #[.string (B r2)] w fun e w' => e = .returned (.tuple #[.int .i64 (cx r2).1, .string (B (cx r2).2.1), .bool (cx r2).2.2]) ∧ ∃ q, w' = w.drewN q) := fun w => cutExponent_c r2 w hr2l.out
        generalize hcx3 : cx r2 = y3 at hx hcx hc6
        clear hcx3
        obtain ⟨x, t3, ok3⟩ := y3
        have hx1 : -9999 ≤ x := hcx.1
        have hx2 : x ≤ 9999 := hcx.2
        clear hcx
        go_wp2_with fail
        refine (hc6.out _).mono ?_
        rintro e w' ⟨rfl, q3, rfl⟩
        clear hc6
        cases ok3 with
        | false =>
          have hp : Hid (prs l = none) := by show _ = _; rw [hpf.out, hx.out]; rfl
          go_wp2
          go_returns
          rw [hp.out]
          exact ⟨by first | rfl | simp [dres], bl3 (by repeat (first | exact (Below.refl _ _).alloc (Nat.le_refl _) _ | apply below_drewN)) _ _ _⟩
        | true =>
          have hok : t3 = [] → Hid (prs l = some (mi, t.take k ++ [], x - (([] : List UInt8).length : Int))) := fun h => by show _ = _; rw [hpf.out, hx.out]; simp [h]
          have hbad : t3 ≠ [] → Hid (prs l = none) := fun h => by show _ = _; rw [hpf.out, hx.out]; simp [h]
          by_cases h3 : t3 = []
          · have hE : (B t3).toList.isEmpty = true := by rw [B_toList, h3]; rfl
            have hp : Hid (prs l = some (mi, t.take k ++ [], x - (([] : List UInt8).length : Int))) := hok h3
            clear hok h3
            go_wp2_with fail
            rw [hcat.out]
            refine (trimLeft_c (t.take k ++ []) _ hcl.out).mono ?_
            rintro e w' ⟨rfl, rfl⟩
            go_wp2
            go_returns
            rw [hp.out]
            exact ⟨by first | rfl | simp [dres], bl3 (by repeat (first | exact (Below.refl _ _).alloc (Nat.le_refl _) _ | apply below_drewN)) _ _ _⟩
          · have hE : (B t3).toList.isEmpty = false := by rw [B_toList]; cases h : t3 with | nil => exact absurd h h3 | cons a b => rfl
            have hp : Hid (prs l = none) := hbad h3
            clear hok hbad h3
            go_wp2
            go_returns
            rw [hp.out]
            exact ⟨by first | rfl | simp [dres], bl3 (by repeat (first | exact (Below.refl _ _).alloc (Nat.le_refl _) _ | apply below_drewN)) _ _ _⟩
      | false =>
        have hx : Hid (xpo t1 = (0, t1, true)) := by show _ = _; unfold xpo; rw [← hee.out]; rfl
        have hr2e : Hid (r2 = t1) := by show _ = _; rw [hr2.out]; exact cut1_not hee.out.symm
        have hok : t1 = [] → Hid (prs l = some (mi, t.take k ++ [], 0 - (([] : List UInt8).length : Int))) := fun h => by show _ = _; rw [hpf.out, hx.out]; simp [h]
        have hbad : t1 ≠ [] → Hid (prs l = none) := fun h => by show _ = _; rw [hpf.out, hx.out]; simp [h]
        by_cases h3 : t1 = []
        · have hE : (B t1).toList.isEmpty = true := by rw [B_toList, h3]; rfl
          have hp : Hid (prs l = some (mi, t.take k ++ [], 0 - (([] : List UInt8).length : Int))) := hok h3
          clear hok h3
          go_wp2_with fail
          rw [hcat.out]
          refine (trimLeft_c (t.take k ++ []) _ hcl.out).mono ?_
          rintro e w' ⟨rfl, rfl⟩
          go_wp2
          go_returns
          rw [hp.out]
          exact ⟨by first | rfl | simp [dres], bl3 (by repeat (first | exact (Below.refl _ _).alloc (Nat.le_refl _) _ | apply below_drewN)) _ _ _⟩
        · have hE : (B t1).toList.isEmpty = false := by rw [B_toList]; cases h : t1 with | nil => exact absurd h h3 | cons a b => rfl
          have hp : Hid (prs l = none) := hbad h3
          clear hok hbad h3
          go_wp2
          go_returns
          rw [hp.out]
          exact ⟨by first | rfl | simp [dres], bl3 (by repeat (first | exact (Below.refl _ _).alloc (Nat.le_refl _) _ | apply below_drewN)) _ _ _⟩
theorem decimalOf_c (l : List UInt8) (w : World) :
    Calls Tryd.prog 19 #[.string (B l)] w fun e w' => e = .returned (dres (prs l)) ∧ Below w.heap.size w w' := by
  by_cases h : 400 < l.length
  · exact decimalOf_long l w h
  · exact decimalOf_short l w (by omega)
end Go.Proofs.YtmfnjmgdindlaaaDoor
