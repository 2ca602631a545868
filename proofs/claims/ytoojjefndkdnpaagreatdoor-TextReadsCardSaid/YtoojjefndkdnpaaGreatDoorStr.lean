/-
  Texts: CutPrefix of one sign, TrimLeft.
-/
import Derived.Test.YtoojjefndkdnpaaGreatDoorMdg
namespace Go.Proofs.YtoojjefndkdnpaaGreatDoor
open Flo Go.RowKit
/-- a text by its signs -/
def B (l : List UInt8) : ByteArray := ⟨l.toArray⟩
theorem B_size (l : List UInt8) : (B l).size = l.length := by simp [B, ByteArray.size]
theorem B_data (l : List UInt8) : (B l).data.toList = l := by simp [B]
theorem B_of (s : ByteArray) : s = B s.data.toList := by simp [B]
theorem B_extract (l : List UInt8) (a b : Nat) : (B l).extract a b = B ((l.drop a).take (b - a)) := ByteArray.extract_mk l a b
theorem B_pre (l : List UInt8) (i : Nat) : (B l).extract 0 i = B (l.take i) := by rw [B_extract]; simp
theorem B_suf (l : List UInt8) (i : Nat) : (B l).extract i (B l).size = B (l.drop i) := by
  rw [B_extract, B_size, List.take_of_length_le (by simp)]
theorem B_append (l m : List UInt8) : B l ++ B m = B (l ++ m) := by
  unfold B
  apply ByteArray.ext
  simp
theorem B_toList (l : List UInt8) : (B l).toList = l := ByteArray.toList_mk l
theorem B_inj {l m : List UInt8} (h : B l = B m) : l = m := by rw [← B_data l, h, B_data]
set_option maxRecDepth 100000 in
set_option maxHeartbeats 400000 in
theorem cutPrefix_0 (c : UInt8) (s : ByteArray) (w : World) (hs : s.size = 0) :
    Calls Tryz.prog 42 #[.string s, .string ⟨#[c]⟩] w fun e w' => e = .returned (.tuple #[.string s, .bool false]) ∧ w = w' := by
  have h1 : (s.size : Int) < 1 := by omega
  go_enter Tryz.func42, Tryz.ntmps42
  go_wp2
  go_ret2
  exact ⟨rfl, rfl⟩
set_option maxRecDepth 100000 in
set_option maxHeartbeats 400000 in
theorem cutPrefix_n (c : UInt8) (s : ByteArray) (w : World) (h1 : (1 : Int) ≤ (s.size : Int)) (h2 : ((s.extract 0 1).toList == [c]) = false) :
    Calls Tryz.prog 42 #[.string s, .string ⟨#[c]⟩] w fun e w' => e = .returned (.tuple #[.string s, .bool false]) ∧ w = w' := by
  go_enter Tryz.func42, Tryz.ntmps42
  go_wp2
  go_ret2
  exact ⟨rfl, rfl⟩
set_option maxRecDepth 100000 in
set_option maxHeartbeats 400000 in
theorem cutPrefix_y (c : UInt8) (s : ByteArray) (w : World) (h1 : (1 : Int) ≤ (s.size : Int)) (h2 : ((s.extract 0 1).toList == [c]) = true) :
    Calls Tryz.prog 42 #[.string s, .string ⟨#[c]⟩] w fun e w' => e = .returned (.tuple #[.string (s.extract 1 s.size), .bool true]) ∧ w = w' := by
  go_enter Tryz.func42, Tryz.ntmps42
  go_wp2
  go_ret2
  exact ⟨rfl, rfl⟩
/-- behind a sign, and whether it was there -/
def cut1 (c : UInt8) : List UInt8 → List UInt8 × Bool
  | [] => ([], false)
  | x :: l => if x = c then (l, true) else (x :: l, false)
theorem cutPrefix_c (c : UInt8) (l : List UInt8) (w : World) :
    Calls Tryz.prog 42 #[.string (B l), .string ⟨#[c]⟩] w fun e w' => e = .returned (.tuple #[.string (B (cut1 c l).1), .bool (cut1 c l).2]) ∧ w = w' := by
  cases l with
  | nil => exact cutPrefix_0 c (B []) w (by rw [B_size]; rfl)
  | cons x l =>
    have hsz : (B (x :: l)).size = l.length + 1 := B_size _
    have e : (((B (x :: l)).extract 0 1).toList == [c]) = decide (x = c) := by
      rw [B_pre, B_toList]
      simp only [List.take_succ_cons, List.take_zero]
      cases h : decide (x = c) with
      | true => rw [of_decide_eq_true h]; simp
      | false => simp [of_decide_eq_false h]
    by_cases hc : x = c
    · have e2 : cut1 c (x :: l) = (l, true) := by simp [cut1, hc]
      rw [e2]
      refine (cutPrefix_y c _ w (by omega) (by rw [e]; exact decide_eq_true hc)).mono ?_
      rintro e w' ⟨rfl, rfl⟩
      rw [B_suf]
      exact ⟨rfl, rfl⟩
    · have e2 : cut1 c (x :: l) = (x :: l, false) := by simp [cut1, hc]
      rw [e2]
      exact cutPrefix_n c _ w (by omega) (by rw [e]; exact decide_eq_false hc)
theorem B_head {x : UInt8} {m : List UInt8} {s : ByteArray} (hs : s = B (x :: m)) (h : 0 < s.size) : s[0] = x := by
  have h1 := ba_get s 0 h
  have h2 : s.data.toList = x :: m := by rw [hs, B_data]
  rw [h2] at h1
  simp at h1
  exact h1.symm
def strLen : Value → Nat | .string s => s.size | _ => 0
set_option maxRecDepth 100000 in
set_option maxHeartbeats 400000 in
theorem trimLeftByte_c (l : List UInt8) (w : World) (hl : l.length ≤ 1000) :
    Calls Tryz.prog 70 #[.string (B l), .int .u8 48] w fun e w' => e = .returned (.string (B (Dg.tz l))) ∧ w = w' := by
  go_enter Tryz.func70, Tryz.ntmps70
  go_wp2
  go_loop [0] (fun ss => ∃ m : List UInt8, m.length ≤ l.length ∧ ss = .string (B m) ∧ Hid (Dg.tz m = Dg.tz l)) (fun ss => strLen ss)
  case atStart => exact ⟨l, Nat.le_refl _, rfl, rfl⟩
  case round =>
    obtain ⟨m, hm, rfl, htz⟩ := hrel
    cases m with
    | nil =>
      have hz : (B []).size = 0 := rfl
      have htz2 : Hid (Dg.tz l = []) := htz.out.symm
      go_wp2
      go_ret
      rw [htz2.out]
      exact ⟨rfl, rfl⟩
    | cons x m =>
      rw [List.length_cons] at hm
      obtain ⟨s, hs⟩ : ∃ s, s = B (x :: m) := ⟨_, rfl⟩
      have hz : s.size = m.length + 1 := by rw [hs]; exact B_size _
      have h0 : 0 < s.size := by omega
      have hx := B_head hs h0
      have hsuf : Hid (s.extract 1 s.size = B m) := by show _ = _; rw [hs, B_suf]; rfl
      rw [← hs]
      have hsH : Hid (s = B (x :: m)) := hs
      have hzH : Hid (s.size = m.length + 1) := hz
      have hsl : s.size ≤ 1000 := by omega
      have hxH : Hid (s[0] = x) := hx
      clear hs hz hx
      by_cases hc : x.toNat = 48
      · have c1 : ((s[0].toNat : Int) == 48) = true := by rw [hxH.out, beq_iff_eq]; omega
        have hnew : Hid (Dg.tz m = Dg.tz l) := by rw [← htz.out]; show _ = Dg.tz (x :: m); conv => rhs; unfold Dg.tz; rw [if_pos hc]
        go_wp2
        exact ⟨⟨m, by omega, by rw [hsuf.out], hnew⟩, by rw [hsuf.out]; show (B m).size < s.size; rw [B_size]; have := hzH.out; omega⟩
      · have c1 : ((s[0].toNat : Int) == 48) = false := by rw [hxH.out]; exact beq_eq_false_iff_ne.2 (by omega)
        have hfin : Hid (s = B (Dg.tz l)) := by rw [← htz.out]; show s = B (Dg.tz (x :: m)); rw [hsH.out]; unfold Dg.tz; rw [if_neg hc]
        go_wp2
        go_ret
        exact ⟨by rw [← hfin.out]; rfl, rfl⟩
set_option maxRecDepth 100000 in
set_option maxHeartbeats 400000 in
theorem trimLeft_0 (s : ByteArray) (w : World) (h0 : s.toList.isEmpty = true) :
    Calls Tryz.prog 45 #[.string s, .string ⟨#[48]⟩] w fun e w' => e = .returned (.string s) ∧ w = w' := by
  go_enter Tryz.func45, Tryz.ntmps45
  go_wp2
  go_ret
  exact ⟨rfl, rfl⟩
set_option maxRecDepth 100000 in
set_option maxHeartbeats 400000 in
theorem trimLeft_n (s r : ByteArray) (w : World) (h0 : s.toList.isEmpty = false) (hc : Hid (Calls Tryz.prog 70 #[.string s, .int .u8 48] w fun e w' => e = .returned (.string r) ∧ w = w')) :
    Calls Tryz.prog 45 #[.string s, .string ⟨#[48]⟩] w fun e w' => e = .returned (.string r) ∧ w = w' := by
  obtain ⟨c, hcs⟩ : ∃ c : ByteArray, c = ⟨#[48]⟩ := ⟨_, rfl⟩
  have h1 : c.size = 1 := by rw [hcs]; rfl
  have h2 : 0 < c.size := by omega
  have h3 : c[0].toNat = 48 := by subst hcs; rfl
  have h4 : c.toList.isEmpty = false := by rw [hcs, ByteArray.toList_eq]; rfl
  rw [← hcs]
  clear hcs
  go_enter Tryz.func45, Tryz.ntmps45
  go_wp2_with fail
  refine hc.out.mono ?_
  rintro e w' ⟨rfl, rfl⟩
  go_wp2
  go_ret
  exact ⟨rfl, rfl⟩
theorem trimLeft_c (l : List UInt8) (w : World) (hl : l.length ≤ 1000) :
    Calls Tryz.prog 45 #[.string (B l), .string ⟨#[48]⟩] w fun e w' => e = .returned (.string (B (Dg.tz l))) ∧ w = w' := by
  cases l with
  | nil => exact trimLeft_0 (B []) w (by rw [B_toList]; rfl)
  | cons x l => exact trimLeft_n (B (x :: l)) (B (Dg.tz (x :: l))) w (by rw [B_toList]; rfl) (trimLeftByte_c (x :: l) w hl)
theorem cutDigits_l (l : List UInt8) (w : World) (hl : l.length ≤ 1000) :
    Calls Tryz.prog 43 #[.string (B l)] w fun e w' => e = .returned (.tuple #[.string (B (l.take (Dg.rl l))), .string (B (l.drop (Dg.rl l))), .bool (decide (0 < Dg.rl l))]) ∧ ∃ q, w' = w.drewN q := by
  refine (cutDigits_c (B l) w (by rw [B_size]; exact hl)).mono ?_
  rintro e w' ⟨i, hi, hr, rfl, q, rfl⟩
  have h := hr.out
  rw [B_data] at h
  subst h
  rw [B_pre, B_suf]
  exact ⟨rfl, q, rfl⟩
/-- an exponent, brought to its end -/
def exf (ds : List UInt8) : Nat := ds.foldl (fun e b => min (10 * e + (b.toNat - 48)) 9999) 0
theorem exf_snoc (ds : List UInt8) (b : UInt8) : exf (ds ++ [b]) = min (10 * exf ds + (b.toNat - 48)) 9999 := by simp [exf]
theorem exf_le (ds : List UInt8) : exf ds ≤ 9999 := by
  have key : ∀ (ds : List UInt8) (a : Nat), a ≤ 9999 → ds.foldl (fun e b => min (10 * e + (b.toNat - 48)) 9999) a ≤ 9999 := by
    intro ds
    induction ds with
    | nil => intro a h; exact h
    | cons x l ih => intro a _; exact ih _ (Nat.min_le_right _ _)
  exact key ds 0 (by omega)
theorem exf_min (ds : List UInt8) : exf ds = min (Dg.dv ds) 9999 := by
  have key : ∀ (ds : List UInt8) (a : Nat), ds.foldl (fun e b => min (10 * e + (b.toNat - 48)) 9999) (min a 9999) = min (ds.foldl (fun n b => n * 10 + (b.toNat - 48)) a) 9999 := by
    intro ds
    induction ds with
    | nil => intro a; rfl
    | cons x l ih =>
      intro a
      simp only [List.foldl_cons]
      rw [← ih]
      congr 1
      omega
  exact key ds 0
set_option maxRecDepth 100000 in
set_option maxHeartbeats 400000 in
theorem cutExponent_t (s t ds r : ByteArray) (mi ok : Bool) (w : World) (hd : Hid (∀ b ∈ ds.data.toList, Dg.isD b = true)) (hds : ds.size ≤ 1000)
    (h1 : Hid (Calls Tryz.prog 42 #[.string s, .string ⟨#[45]⟩] w fun e w' => e = .returned (.tuple #[.string t, .bool mi]) ∧ w = w'))
    (h2 : Hid (Calls Tryz.prog 43 #[.string t] w fun e w' => e = .returned (.tuple #[.string ds, .string r, .bool ok]) ∧ ∃ q, w' = w.drewN q)) :
    Calls Tryz.prog 44 #[.string s] w fun e w' => e = .returned (.tuple #[.int .i64 (if mi then -(exf ds.data.toList : Int) else (exf ds.data.toList : Int)), .string r, .bool ok]) ∧ ∃ q, w' = w.drewN q := by
  go_enter Tryz.func44, Tryz.ntmps44
  go_wp2_with fail
  refine h1.out.mono ?_
  rintro e w' ⟨rfl, rfl⟩
  go_wp2_with fail
  refine h2.out.mono ?_
  rintro e w' ⟨rfl, q, rfl⟩
  clear h1 h2
  go_wp2_with fail
  generalize hwq : w.drewN q = wq
  have hwH : Hid (w.drewN q = wq) := hwq
  clear hwq
  go_loop [2, 21] (fun se si => ∃ i e : Nat, i ≤ ds.size ∧ e ≤ 9999 ∧ se = .int .i64 e ∧ si = .int .i64 i ∧ Hid (e = exf (ds.data.toList.take i))) (fun _ si => ds.size - (intOf si).toNat)
  case atStart => exact ⟨0, 0, by omega, by omega, rfl, rfl, rfl⟩
  case round =>
    obtain ⟨i, e, hi, he, rfl, rfl, hex⟩ := hrel
    by_cases hlt : i < ds.size
    · have hlt' : (i : Int) < (ds.size : Int) := by omega
      have hb := ba_get ds i hlt
      have hdi : Dg.isD ds[i] = true := hd.out _ (List.mem_of_getElem? hb)
      have hsn : Hid (exf (ds.data.toList.take (i + 1)) = min (10 * e + (ds[i].toNat - 48)) 9999) := by
        show _ = _
        rw [Dg.take_snoc hb, exf_snoc, ← hex.out]
      simp [Dg.isD] at hdi
      have hx1 : 48 ≤ ds[i].toNat := hdi.1
      have hx2 : ds[i].toNat ≤ 57 := hdi.2
      have hxI : ((ds[i].toNat : Int) - 48) = ((ds[i].toNat - 48 : Nat) : Int) := by omega
      obtain ⟨x, hx⟩ : ∃ x : Nat, ds[i].toNat - 48 = x := ⟨_, rfl⟩
      have hx3 : x ≤ 9 := by omega
      rw [hx] at hsn hxI
      clear hb hdi hx hex
      go_wp2
      all_goals (refine ⟨⟨i + 1, min (10 * e + x) 9999, by omega, by omega, by go_num, by go_num, hsn.out.symm⟩, by simp [intOf]; omega⟩)
    · have hlt' : decide ((i : Int) < (ds.size : Int)) = false := decide_eq_false (by omega)
      have hfin : Hid (exf ds.data.toList = e) := by
        have h := hex.out
        rw [List.take_of_length_le (by show ds.size ≤ i; omega)] at h
        exact h.symm
      cases mi
      · go_wp2
        go_ret3
        exact ⟨by rw [hfin.out]; rfl, q, hwH.out.symm⟩
      · go_wp2
        go_ret3
        exact ⟨by rw [hfin.out]; rfl, q, hwH.out.symm⟩
/-- an exponent's text: its number, what is behind, whether there is one -/
def cx (l : List UInt8) : Int × List UInt8 × Bool :=
  let t := (cut1 45 l).1
  ((if (cut1 45 l).2 then -(exf (t.take (Dg.rl t)) : Int) else (exf (t.take (Dg.rl t)) : Int)), t.drop (Dg.rl t), decide (0 < Dg.rl t))
theorem cut1_len (c : UInt8) (l : List UInt8) : (cut1 c l).1.length ≤ l.length := by
  cases l with
  | nil => simp [cut1]
  | cons x l => simp only [cut1]; split <;> simp
theorem cutExponent_c (l : List UInt8) (w : World) (hl : l.length ≤ 1000) :
    Calls Tryz.prog 44 #[.string (B l)] w fun e w' => e = .returned (.tuple #[.int .i64 (cx l).1, .string (B (cx l).2.1), .bool (cx l).2.2]) ∧ ∃ q, w' = w.drewN q := by
  have h1 := cutPrefix_c 45 l w
  have hl1 := cut1_len 45 l
  have h2 := cutDigits_l (cut1 45 l).1 w (by omega)
  have h3 := cutExponent_t (B l) (B (cut1 45 l).1) _ _ _ _ w (by rw [B_data]; exact Dg.rl_all _) (by rw [B_size]; simp; omega) h1 h2
  rw [B_data] at h3
  exact h3
end Go.Proofs.YtoojjefndkdnpaaGreatDoor
