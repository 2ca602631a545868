/-
  The document's reading: run, number.
-/
import Derived.Test.YtbpncapdjolanaaGreatDoorNb1
import Derived.Test.YtbpncapdjolanaaGreatDoorStr
namespace Go.Proofs.YtbpncapdjolanaaGreatDoor
open Flo Go.RowKit
set_option maxRecDepth 100000 in
set_option maxHeartbeats 1000000 in
theorem rrun_c (s : ByteArray) (a : Nat) (w : World) (hs : s.size ≤ 1000) (ha : a ≤ 1000) :
    Calls Tryz.prog 24 #[.string s, .int .i64 a] w fun e w' => e = .returned (.int .i64 (Dg.rl (s.data.toList.drop a) : Nat)) ∧ w = w' := by
  go_enter Tryz.func24, Tryz.ntmps24
  go_wp2
  go_loop [5] (fun sn => ∃ n : Nat, (n = 0 ∨ a + n ≤ s.size) ∧ sn = .int .i64 n ∧ Hid (∀ j, j < n → ∃ b, (s.data.toList.drop a)[j]? = some b ∧ Dg.isD b = true)) (fun sn => s.size - (intOf sn).toNat)
  case atStart => exact ⟨0, .inl rfl, rfl, fun j hj => absurd hj (by omega)⟩
  case round =>
    obtain ⟨n, hn, rfl, hall⟩ := hrel
    have fin : (∀ b, (s.data.toList.drop a)[n]? = some b → Dg.isD b = false) → Hid (Dg.rl (s.data.toList.drop a) = n) := fun h => Dg.rl_eq _ n hall.out h
    obtain ⟨i, hi⟩ : ∃ i : Nat, Hid (i = a + n) := ⟨_, rfl⟩
    have hiI : (a : Int) + (n : Int) = (i : Int) := by have := hi.out; omega
    have hil : i ≤ 2000 := by have := hi.out; omega
    by_cases hlt : i < s.size
    · have hlt' : (i : Int) < (s.size : Int) := by omega
      have hb := ba_get s i hlt
      have hb2 : (s.data.toList.drop a)[n]? = some s[i] := by rw [List.getElem?_drop, ← hi.out]; exact hb
      by_cases c1 : (48 : Int) ≤ (s[i].toNat : Int)
      · by_cases c2 : (s[i].toNat : Int) ≤ (57 : Int)
        · have hnew : Hid (∀ j, j < n + 1 → ∃ b, (s.data.toList.drop a)[j]? = some b ∧ Dg.isD b = true) := fun j hj => by
            by_cases hji : j = n
            · subst hji; exact ⟨_, hb2, by simp [Dg.isD]; omega⟩
            · exact hall.out j (by omega)
          have hnl : a + (n + 1) ≤ s.size := by have := hi.out; omega
          clear fin hb hb2
          go_wp2
          go_round
          case rel => exact ⟨n + 1, .inr hnl, by go_num, hnew⟩
          case measure => simp [intOf]; omega
        · have hf : Hid (Dg.rl (s.data.toList.drop a) = n) := fin fun b h => by rw [hb2] at h; cases h; simp [Dg.isD]; omega
          clear fin hb hb2
          go_wp2
          go_ret
          exact ⟨by rw [hf.out]; rfl, rfl⟩
      · have hf : Hid (Dg.rl (s.data.toList.drop a) = n) := fin fun b h => by rw [hb2] at h; cases h; simp [Dg.isD]; omega
        clear fin hb hb2
        go_wp2
        go_ret
        exact ⟨by rw [hf.out]; rfl, rfl⟩
    · have hlt' : ¬ ((i : Int) < (s.size : Int)) := by omega
      have hf : Hid (Dg.rl (s.data.toList.drop a) = n) := fin fun b h => by rw [List.getElem?_drop, ← hi.out, ba_none s i (by omega)] at h; cases h
      clear fin
      go_wp2
      go_ret
      exact ⟨by rw [hf.out]; rfl, rfl⟩
/-- a number, brought to its end -/
def exg (ds : List UInt8) : Nat := ds.foldl (fun e b => min (10 * e + (b.toNat - 48)) 100000) 0
theorem exg_snoc (ds : List UInt8) (b : UInt8) : exg (ds ++ [b]) = min (10 * exg ds + (b.toNat - 48)) 100000 := by simp [exg]
theorem exg_min (ds : List UInt8) : exg ds = min (Dg.dv ds) 100000 := by
  have key : ∀ (ds : List UInt8) (a : Nat), ds.foldl (fun e b => min (10 * e + (b.toNat - 48)) 100000) (min a 100000) = min (ds.foldl (fun n b => n * 10 + (b.toNat - 48)) a) 100000 := by
    intro ds
    induction ds with
    | nil => intro a; rfl
    | cons x l ih =>
      intro a
      simp only [List.foldl_cons]
      rw [← ih]
      congr 1
      omega
  exact key ds 0
set_option maxRecDepth 100000 in
set_option maxHeartbeats 1000000 in
theorem rnumber_c (s : ByteArray) (w : World) (hs : s.size ≤ 1000) (hd : Hid (∀ b ∈ s.data.toList, Dg.isD b = true)) :
    Calls Tryz.prog 25 #[.string s] w fun e w' => e = .returned (.int .i64 (exg s.data.toList : Nat)) ∧ w = w' := by
  go_enter Tryz.func25, Tryz.ntmps25
  go_wp2
  go_loop [3, 4] (fun se si => ∃ i e : Nat, i ≤ s.size ∧ e ≤ 100000 ∧ se = .int .i64 e ∧ si = .int .i64 i ∧ Hid (e = exg (s.data.toList.take i))) (fun _ si => s.size - (intOf si).toNat)
  case atStart => exact ⟨0, 0, by omega, by omega, rfl, rfl, rfl⟩
  case round =>
    obtain ⟨i, e, hi, he, rfl, rfl, hex⟩ := hrel
    by_cases hlt : i < s.size
    · have hlt' : (i : Int) < (s.size : Int) := by omega
      have hb := ba_get s i hlt
      have hdi : Dg.isD s[i] = true := hd.out _ (List.mem_of_getElem? hb)
      have hsn : Hid (exg (s.data.toList.take (i + 1)) = min (10 * e + (s[i].toNat - 48)) 100000) := by
        show _ = _
        rw [Dg.take_snoc hb, exg_snoc, ← hex.out]
      simp [Dg.isD] at hdi
      have hx1 : 48 ≤ s[i].toNat := hdi.1
      have hx2 : s[i].toNat ≤ 57 := hdi.2
      have hxI : ((s[i].toNat : Int) - 48) = ((s[i].toNat - 48 : Nat) : Int) := by omega
      obtain ⟨x, hx⟩ : ∃ x : Nat, s[i].toNat - 48 = x := ⟨_, rfl⟩
      have hx3 : x ≤ 9 := by omega
      rw [hx] at hsn hxI
      clear hb hdi hx hex
      by_cases hc : 10 * e + x ≤ 100000
      · have hc1 : (10 * (e : Int) + (x : Int)) ≤ 100000 := by omega
        have hnew : Hid (10 * e + x = exg (s.data.toList.take (i + 1))) := by rw [hsn.out]; exact (Nat.min_eq_left hc).symm
        clear hsn
        go_wp2
        all_goals go_round
        all_goals first
          | exact ⟨i + 1, 10 * e + x, by omega, hc, by go_num, by go_num, hnew⟩
          | (simp [intOf]; omega)
      · have hc1 : 100000 < (10 * (e : Int) + (x : Int)) := by omega
        have hnew : Hid (100000 = exg (s.data.toList.take (i + 1))) := by rw [hsn.out]; exact (Nat.min_eq_right (by omega)).symm
        clear hsn
        go_wp2
        all_goals go_round
        all_goals first
          | exact ⟨i + 1, 100000, by omega, by omega, by go_num, by go_num, hnew⟩
          | (simp [intOf]; omega)
    · have hlt' : ¬ ((i : Int) < (s.size : Int)) := by omega
      have hik : i = s.size := by omega
      have hfin : Hid (e = exg s.data.toList) := by
        have h := hex.out
        rw [List.take_of_length_le (by rw [hik]; exact Nat.le_refl _)] at h
        exact h
      clear hex hik
      go_wp2
      go_ret
      exact ⟨by rw [← hfin.out]; rfl, rfl⟩
end Go.Proofs.YtbpncapdjolanaaGreatDoor
