/-
  The statements' own 'write': the other kinds of one number or text.
-/
import Derived.Test.YtjckgcjcpmnhhaaDoorPw1
namespace Go.Proofs.YtjckgcjcpmnhhaaDoor
open Flo Go.RowKit
theorem wrap64_bd (x : Int) : -9223372036854775808 ≤ wrap64 x ∧ wrap64 x ≤ 9223372036854775807 := by
  unfold wrap64
  omega
set_option maxRecDepth 100000 in
set_option maxHeartbeats 4000000 in
theorem write_1 (F : Nat → Prop) (g : Nat) (ys : List Nat) (n : Int) (u v : Nat) (s : ByteArray) (lo : Option Addr) (ln lc : Nat) (w : World) (h : Wr F w g ys) (hl : ys.length ≤ 140737400000000) :
    Calls Tryd.prog 9 #[.pointer (some ⟨g, 0, none⟩), vl 1 u v s (.slice lo ln lc) n] w fun e w' => ∃ v', e = .returned (.tuple #[v', .bool true]) ∧ WrO F w w' g ys (Pk.vi (zg (wrap64 (u : Int)))) v' := by
  unfold vl
  obtain ⟨w1, hw1⟩ : ∃ w1, Hid (w1 = w.alloc (.cells #[.int .i64 1, .int .u64 (u : Int), .int .u64 (v : Int), .string s, .slice lo ln lc, .int .i64 n] 30)) := ⟨_, rfl⟩
  have hbx : Hid (Bx w1 w.heap.size 1 u v s (.slice lo ln lc) n) := by rw [hw1.out]; exact box_bx w 1 u v s _ n
  have hW1 : Hid (Wr (Fx F w) w1 g ys) := by rw [hw1.out]; exact box_wr h _
  have hf1 : Hid (Fr F w w1 ∧ w1.heap.size = w.heap.size + 1) := by rw [hw1.out]; exact ⟨(Fr.refl F w).alloc _, by simp⟩
  have hFx : Hid (∀ j, w1.heap.size ≤ j → Fx F w j) := fun j hj => .inr (by have := hf1.out.2; omega)
  clear h
  go_enter Tryd.func9, Tryd.ntmps9
  go_wp2_with fail
  rw [← hw1.out]
  refine (wint_c (Fx F w) g ys (wrap64 (u : Int)) w1 hW1.out hFx.out (wrap64_bd _).1 (wrap64_bd _).2 (by omega)).mono ?_
  rintro e w2 ⟨rfl, h2, h3⟩
  have h2H : Hid (Wr (Fx F w) w2 g (ys ++ (Pk.vi (zg (wrap64 (u : Int)))))) := h2
  have h3H : Hid (Fr (Fx F w) w1 w2) := h3
  have hb2 := (hbx.out.under h3 (fun hh => by
    rcases hh with h5 | h5
    · exact absurd h5.2 (Nat.lt_irrefl _)
    · omega))
  have c1 := hb2.c1
  clear hb2 h2 h3
  go_wp2_with fail
  refine (pint_c (wrap64 (u : Int)) w2 (wrap64_bd _).1 (wrap64_bd _).2).mono ?_
  rintro e w3 ⟨v3, rfl, h4⟩
  have h4H : Hid (NewB w2 w3 v3 (Pk.vi (zg (wrap64 (u : Int))))) := h4
  clear h4
  go_wp2
  go_ret2
  exact ⟨_, rfl, wrO_of hf1.out.1 hf1.out.2 h2H.out h3H.out h4H.out⟩
set_option maxRecDepth 100000 in
set_option maxHeartbeats 4000000 in
theorem write_2 (F : Nat → Prop) (g : Nat) (ys : List Nat) (n : Int) (u v : Nat) (s : ByteArray) (lo : Option Addr) (ln lc : Nat) (w : World) (h : Wr F w g ys) (hl : ys.length ≤ 140737400000000) (hu : u < 18446744073709551616) :
    Calls Tryd.prog 9 #[.pointer (some ⟨g, 0, none⟩), vl 2 u v s (.slice lo ln lc) n] w fun e w' => ∃ v', e = .returned (.tuple #[v', .bool true]) ∧ WrO F w w' g ys (Pk.lo 8 (bt u)) v' := by
  unfold vl
  obtain ⟨w1, hw1⟩ : ∃ w1, Hid (w1 = w.alloc (.cells #[.int .i64 2, .int .u64 (u : Int), .int .u64 (v : Int), .string s, .slice lo ln lc, .int .i64 n] 30)) := ⟨_, rfl⟩
  have hbx : Hid (Bx w1 w.heap.size 2 u v s (.slice lo ln lc) n) := by rw [hw1.out]; exact box_bx w 2 u v s _ n
  have hW1 : Hid (Wr (Fx F w) w1 g ys) := by rw [hw1.out]; exact box_wr h _
  have hf1 : Hid (Fr F w w1 ∧ w1.heap.size = w.heap.size + 1) := by rw [hw1.out]; exact ⟨(Fr.refl F w).alloc _, by simp⟩
  have hFx : Hid (∀ j, w1.heap.size ≤ j → Fx F w j) := fun j hj => .inr (by have := hf1.out.2; omega)
  clear h
  go_enter Tryd.func9, Tryd.ntmps9
  go_wp2_with fail
  rw [← hw1.out]
  refine (lawof_c u w1).mono ?_
  rintro e w' ⟨rfl, rfl⟩
  go_wp2_with fail
  refine (wfloat_c (Fx F w) g ys u w1 hW1.out hFx.out hu (by omega)).mono ?_
  rintro e w2 ⟨rfl, h2, h3⟩
  have h2H : Hid (Wr (Fx F w) w2 g (ys ++ (Pk.lo 8 (bt u)))) := h2
  have h3H : Hid (Fr (Fx F w) w1 w2) := h3
  have hb2 := (hbx.out.under h3 (fun hh => by
    rcases hh with h5 | h5
    · exact absurd h5.2 (Nat.lt_irrefl _)
    · omega))
  have c1 := hb2.c1
  clear hb2 h2 h3
  go_wp2_with fail
  refine (lawof_c u w2).mono ?_
  rintro e w' ⟨rfl, rfl⟩
  go_wp2_with fail
  refine (pfloat_c u w2 hu).mono ?_
  rintro e w3 ⟨v3, rfl, h4⟩
  have h4H : Hid (NewB w2 w3 v3 (Pk.lo 8 (bt u))) := h4
  clear h4
  go_wp2
  go_ret2
  exact ⟨_, rfl, wrO_of hf1.out.1 hf1.out.2 h2H.out h3H.out h4H.out⟩
set_option maxRecDepth 100000 in
set_option maxHeartbeats 4000000 in
theorem write_5 (F : Nat → Prop) (g : Nat) (ys : List Nat) (n : Int) (u v : Nat) (s : ByteArray) (lo : Option Addr) (ln lc : Nat) (w : World) (h : Wr F w g ys) (hl : ys.length ≤ 140737400000000) (hs : s.size ≤ 1048576) :
    Calls Tryd.prog 9 #[.pointer (some ⟨g, 0, none⟩), vl 5 u v s (.slice lo ln lc) n] w fun e w' => ∃ v', e = .returned (.tuple #[v', .bool true]) ∧ WrO F w w' g ys (Pk.vi s.size ++ sb s) v' := by
  unfold vl
  obtain ⟨w1, hw1⟩ : ∃ w1, Hid (w1 = w.alloc (.cells #[.int .i64 5, .int .u64 (u : Int), .int .u64 (v : Int), .string s, .slice lo ln lc, .int .i64 n] 30)) := ⟨_, rfl⟩
  have hbx : Hid (Bx w1 w.heap.size 5 u v s (.slice lo ln lc) n) := by rw [hw1.out]; exact box_bx w 5 u v s _ n
  have hW1 : Hid (Wr (Fx F w) w1 g ys) := by rw [hw1.out]; exact box_wr h _
  have hf1 : Hid (Fr F w w1 ∧ w1.heap.size = w.heap.size + 1) := by rw [hw1.out]; exact ⟨(Fr.refl F w).alloc _, by simp⟩
  have hFx : Hid (∀ j, w1.heap.size ≤ j → Fx F w j) := fun j hj => .inr (by have := hf1.out.2; omega)
  clear h
  go_enter Tryd.func9, Tryd.ntmps9
  go_wp2_with fail
  rw [← hw1.out]
  refine (wtext_c (Fx F w) g ys s w1 hW1.out hFx.out (by omega)).mono ?_
  rintro e w2 ⟨rfl, h2, h3⟩
  have h2H : Hid (Wr (Fx F w) w2 g (ys ++ (Pk.vi s.size ++ sb s))) := h2
  have h3H : Hid (Fr (Fx F w) w1 w2) := h3
  have hb2 := (hbx.out.under h3 (fun hh => by
    rcases hh with h5 | h5
    · exact absurd h5.2 (Nat.lt_irrefl _)
    · omega))
  have c3 := hb2.c3
  clear hb2 h2 h3
  go_wp2_with fail
  refine (ptext_c s w2 (by omega)).mono ?_
  rintro e w3 ⟨v3, rfl, h4⟩
  have h4H : Hid (NewB w2 w3 v3 (Pk.vi s.size ++ sb s)) := h4
  clear h4
  go_wp2
  go_ret2
  exact ⟨_, rfl, wrO_of hf1.out.1 hf1.out.2 h2H.out h3H.out h4H.out⟩
end Go.Proofs.YtjckgcjcpmnhhaaDoor
