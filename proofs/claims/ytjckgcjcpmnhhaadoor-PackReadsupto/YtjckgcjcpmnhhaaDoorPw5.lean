/-
  The statements' own 'write' at all Values.
-/
import Derived.Test.YtjckgcjcpmnhhaaDoorPw4
namespace Go.Proofs.YtjckgcjcpmnhhaaDoor
open Flo Go.RowKit
/-- what of a Value is known -/
structure Vok (w : World) (u v : Nat) (s : ByteArray) (l : Value) (zs : List Nat) : Prop where
  hu : u < 18446744073709551616
  hv : v < 18446744073709551616
  hs : s.size ≤ 1048576
  hl : SrcN w l zs
  hz : zs.length ≤ 1048576
  hb : ∀ z ∈ zs, z < 18446744073709551616
/-- a Value's bytes -/
def wbs (k : Int) (u v : Nat) (s : ByteArray) (zs : List Nat) : List Nat :=
  if k = 0 ∨ k = 8 then Pk.vi u else if k = 1 then Pk.vi (zg (wrap64 (u : Int))) else if k = 2 then Pk.lo 8 (bt u) else if k = 3 then Pk.lo 8 (bt u) ++ Pk.lo 8 (bt v)
  else if k = 4 then Pk.lo 4 (bt32 (u % 4294967296)) ++ Pk.lo 4 (bt32 (v % 4294967296)) else if k = 5 then Pk.vi s.size ++ sb s
  else if k = 6 then Pk.vi (pri zs (zs.length / 2)).length ++ cbs (pri zs (zs.length / 2)) else if k = 7 then Pk.vi zs.length ++ fbs zs else []
theorem wbs_0 (k : Int) (u v : Nat) (s : ByteArray) (zs : List Nat) (h : k = 0 ∨ k = 8) : wbs k u v s zs = Pk.vi u := by unfold wbs; rw [if_pos h]
theorem wbs_1 (u v : Nat) (s : ByteArray) (zs : List Nat) : wbs 1 u v s zs = Pk.vi (zg (wrap64 (u : Int))) := by unfold wbs; rw [if_neg (by decide), if_pos rfl]
theorem wbs_2 (u v : Nat) (s : ByteArray) (zs : List Nat) : wbs 2 u v s zs = Pk.lo 8 (bt u) := by unfold wbs; rw [if_neg (by decide), if_neg (by decide), if_pos rfl]
theorem wbs_3 (u v : Nat) (s : ByteArray) (zs : List Nat) : wbs 3 u v s zs = Pk.lo 8 (bt u) ++ Pk.lo 8 (bt v) := by unfold wbs; rw [if_neg (by decide), if_neg (by decide), if_neg (by decide), if_pos rfl]
theorem wbs_4 (u v : Nat) (s : ByteArray) (zs : List Nat) : wbs 4 u v s zs = Pk.lo 4 (bt32 (u % 4294967296)) ++ Pk.lo 4 (bt32 (v % 4294967296)) := by unfold wbs; rw [if_neg (by decide), if_neg (by decide), if_neg (by decide), if_neg (by decide), if_pos rfl]
theorem wbs_5 (u v : Nat) (s : ByteArray) (zs : List Nat) : wbs 5 u v s zs = Pk.vi s.size ++ sb s := by unfold wbs; rw [if_neg (by decide), if_neg (by decide), if_neg (by decide), if_neg (by decide), if_neg (by decide), if_pos rfl]
theorem wbs_6 (u v : Nat) (s : ByteArray) (zs : List Nat) : wbs 6 u v s zs = Pk.vi (pri zs (zs.length / 2)).length ++ cbs (pri zs (zs.length / 2)) := by unfold wbs; rw [if_neg (by decide), if_neg (by decide), if_neg (by decide), if_neg (by decide), if_neg (by decide), if_neg (by decide), if_pos rfl]
theorem wbs_7 (u v : Nat) (s : ByteArray) (zs : List Nat) : wbs 7 u v s zs = Pk.vi zs.length ++ fbs zs := by unfold wbs; rw [if_neg (by decide), if_neg (by decide), if_neg (by decide), if_neg (by decide), if_neg (by decide), if_neg (by decide), if_neg (by decide), if_pos rfl]
theorem wbs_d (k : Int) (u v : Nat) (s : ByteArray) (zs : List Nat) (h : ∀ j : Int, 0 ≤ j → j ≤ 8 → k ≠ j) : wbs k u v s zs = [] := by
  unfold wbs
  rw [if_neg (fun e => by rcases e with e | e <;> exact absurd e (h _ (by decide) (by decide))), if_neg (h 1 (by decide) (by decide)), if_neg (h 2 (by decide) (by decide)), if_neg (h 3 (by decide) (by decide)), if_neg (h 4 (by decide) (by decide)), if_neg (h 5 (by decide) (by decide)), if_neg (h 6 (by decide) (by decide)), if_neg (h 7 (by decide) (by decide))]
/-- which kind -/
theorem kind_cases (k : Int) : (k = 0 ∨ k = 8) ∨ k = 1 ∨ k = 2 ∨ k = 3 ∨ k = 4 ∨ k = 5 ∨ k = 6 ∨ k = 7 ∨ ∀ j : Int, 0 ≤ j → j ≤ 8 → k ≠ j := by
  by_cases h : 0 ≤ k ∧ k ≤ 8
  · omega
  · right; right; right; right; right; right; right; right
    intro j h1 h2 e; subst e; exact h ⟨h1, h2⟩
theorem write_c (F : Nat → Prop) (g : Nat) (ys : List Nat) (k n : Int) (u v : Nat) (s : ByteArray) (l : Value) (zs : List Nat) (w : World) (h : Wr F w g ys) (hl : ys.length ≤ 140737400000000) (hv : Vok w u v s l zs) :
    Calls Tryd.prog 9 #[.pointer (some ⟨g, 0, none⟩), vl k u v s l n] w fun e w' => ∃ v', e = .returned (.tuple #[v', .bool true]) ∧ WrO F w w' g ys (wbs k u v s zs) v' := by
  rcases kind_cases k with h0 | rfl | rfl | rfl | rfl | rfl | rfl | rfl | hd
  · obtain ⟨lo, lc, rfl, _⟩ := hv.hl
    rw [wbs_0 k u v s zs h0]; exact write_0 F g ys k n u v s lo _ lc w h hl hv.hu h0
  · obtain ⟨lo, lc, rfl, _⟩ := hv.hl
    rw [wbs_1]; exact write_1 F g ys n u v s lo _ lc w h hl
  · obtain ⟨lo, lc, rfl, _⟩ := hv.hl
    rw [wbs_2]; exact write_2 F g ys n u v s lo _ lc w h hl hv.hu
  · obtain ⟨lo, lc, rfl, _⟩ := hv.hl
    rw [wbs_3]; exact write_3 F g ys n u v s lo _ lc w h hl hv.hu hv.hv
  · obtain ⟨lo, lc, rfl, _⟩ := hv.hl
    rw [wbs_4]; exact write_4 F g ys n u v s lo _ lc w h hl
  · obtain ⟨lo, lc, rfl, _⟩ := hv.hl
    rw [wbs_5]; exact write_5 F g ys n u v s lo _ lc w h hl hv.hs
  · rw [wbs_6]; exact write_6 F g ys n u v s l zs w h hl hv.hl hv.hz hv.hb
  · rw [wbs_7]; exact write_7 F g ys n u v s l zs w h hl hv.hl hv.hz hv.hb
  · obtain ⟨lo, lc, rfl, _⟩ := hv.hl
    rw [wbs_d k u v s zs hd]; exact write_d F g ys k n u v s lo _ lc w h hd
theorem wbs_len {w : World} {u v : Nat} {s : ByteArray} {l : Value} {zs : List Nat} (hv : Vok w u v s l zs) (k : Int) : (wbs k u v s zs).length ≤ 8388618 := by
  have l1 := Pk.vi_len hv.hu
  have l2 := hv.hz
  have l3 := hv.hs
  have l4 : (Pk.vi (zg (wrap64 (u : Int)))).length ≤ 10 := Pk.vi_len (zg_lt (wrap64_bd _).1 (wrap64_bd _).2)
  have l5 : (Pk.vi s.size).length ≤ 10 := Pk.vi_len (by omega)
  have l6 : (Pk.vi (pri zs (zs.length / 2)).length).length ≤ 10 := Pk.vi_len (by rw [pri_len]; omega)
  have l7 : (Pk.vi zs.length).length ≤ 10 := Pk.vi_len (by omega)
  rcases kind_cases k with h0 | rfl | rfl | rfl | rfl | rfl | rfl | rfl | hd
  · rw [wbs_0 k u v s zs h0]; omega
  · rw [wbs_1]; clear hv; omega
  · rw [wbs_2, Pk.lo_len]; decide
  · rw [wbs_3, List.length_append, Pk.lo_len, Pk.lo_len]; decide
  · rw [wbs_4, List.length_append, Pk.lo_len, Pk.lo_len]; decide
  · rw [wbs_5, List.length_append, sb_len]; clear l4; omega
  · rw [wbs_6, List.length_append, cbs_len]; rw [pri_len] at l6 ⊢; clear l4; omega
  · rw [wbs_7, List.length_append, fbs_len]; clear l4; omega
  · rw [wbs_d k u v s zs hd]; simp
theorem fbs_byte (zs : List Nat) : ∀ b ∈ fbs zs, b < 256 := by
  intro b hb
  obtain ⟨z, _, h⟩ := List.mem_flatMap.1 hb
  exact Pk.lo_byte _ _ b h
theorem cbs_byte (zs : List (Nat × Nat)) : ∀ b ∈ cbs zs, b < 256 := by
  intro b hb
  obtain ⟨z, _, h⟩ := List.mem_flatMap.1 hb
  rcases List.mem_append.1 h with h | h
  · exact Pk.lo_byte _ _ b h
  · exact Pk.lo_byte _ _ b h
theorem wbs_byte (k : Int) (u v : Nat) (s : ByteArray) (zs : List Nat) : ∀ b ∈ wbs k u v s zs, b < 256 := by
  intro b hb
  rcases kind_cases k with h0 | rfl | rfl | rfl | rfl | rfl | rfl | rfl | hd
  · rw [wbs_0 k u v s zs h0] at hb; exact Pk.vi_byte _ _ (Nat.le_refl _) b hb
  · rw [wbs_1] at hb; exact Pk.vi_byte _ _ (Nat.le_refl _) b hb
  · rw [wbs_2] at hb; exact Pk.lo_byte _ _ b hb
  · rw [wbs_3] at hb
    rcases List.mem_append.1 hb with h | h <;> exact Pk.lo_byte _ _ b h
  · rw [wbs_4] at hb
    rcases List.mem_append.1 hb with h | h <;> exact Pk.lo_byte _ _ b h
  · rw [wbs_5] at hb
    rcases List.mem_append.1 hb with h | h
    · exact Pk.vi_byte _ _ (Nat.le_refl _) b h
    · exact sb_byte s b h
  · rw [wbs_6] at hb
    rcases List.mem_append.1 hb with h | h
    · exact Pk.vi_byte _ _ (Nat.le_refl _) b h
    · exact cbs_byte _ b h
  · rw [wbs_7] at hb
    rcases List.mem_append.1 hb with h | h
    · exact Pk.vi_byte _ _ (Nat.le_refl _) b h
    · exact fbs_byte _ b h
  · rw [wbs_d k u v s zs hd] at hb; cases hb
end Go.Proofs.YtjckgcjcpmnhhaaDoor
