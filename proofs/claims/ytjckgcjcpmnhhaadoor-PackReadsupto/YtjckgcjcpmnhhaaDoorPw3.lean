/-
  The statements' own 'write': complex numbers, and what is no kind.
-/
import Derived.Test.YtjckgcjcpmnhhaaDoorPw2
namespace Go.Proofs.YtjckgcjcpmnhhaaDoor
open Flo Go.RowKit
theorem NewB.pre {w w1 w2 : World} {v : Value} {ys : List Nat} (hb : Below w.heap.size w w1) (h : NewB w1 w2 v ys) : NewB w w2 v ys :=
  ⟨h.own, fun b hb' => Nat.le_trans hb.size (h.new b hb'), hb.trans (h.below.mono hb.size)⟩
theorem wrO_nil {F : Nat → Prop} {w w1 : World} {g : Nat} {ys : List Nat} (h1 : Fr F w w1) (h2 : Wr (Fx F w) w1 g ys) : WrO F w w1 g ys [] (.slice none 0 0) :=
  ⟨⟨Fx F w, by rw [List.append_nil]; exact h2, fun k hk => by
    rcases hk with h5 | h5
    · exact .inl h5.1
    · exact .inr (by omega), fun b hb => by cases hb⟩, h1, World.ownsRow_nil _ _ _ _, fun b hb => by cases hb⟩
set_option maxRecDepth 100000 in
set_option maxHeartbeats 4000000 in
theorem write_3 (F : Nat → Prop) (g : Nat) (ys : List Nat) (n : Int) (u v : Nat) (s : ByteArray) (lo : Option Addr) (ln lc : Nat) (w : World) (h : Wr F w g ys) (hl : ys.length ≤ 140737400000000) (hu : u < 18446744073709551616) (hv : v < 18446744073709551616) :
    Calls Tryd.prog 9 #[.pointer (some ⟨g, 0, none⟩), vl 3 u v s (.slice lo ln lc) n] w fun e w' => ∃ v', e = .returned (.tuple #[v', .bool true]) ∧ WrO F w w' g ys (Pk.lo 8 (bt u) ++ Pk.lo 8 (bt v)) v' := by
  unfold vl
  obtain ⟨w1, hw1⟩ : ∃ w1, Hid (w1 = w.alloc (.cells #[.int .i64 3, .int .u64 (u : Int), .int .u64 (v : Int), .string s, .slice lo ln lc, .int .i64 n] 30)) := ⟨_, rfl⟩
  have hbx : Hid (Bx w1 w.heap.size 3 u v s (.slice lo ln lc) n) := by rw [hw1.out]; exact box_bx w 3 u v s _ n
  have hW1 : Hid (Wr (Fx F w) w1 g ys) := by rw [hw1.out]; exact box_wr h _
  have hf1 : Hid (Fr F w w1 ∧ w1.heap.size = w.heap.size + 1) := by rw [hw1.out]; exact ⟨(Fr.refl F w).alloc _, by simp⟩
  have hFx : Hid (∀ j, w1.heap.size ≤ j → Fx F w j) := fun j hj => .inr (by have := hf1.out.2; omega)
  clear h
  go_enter Tryd.func9, Tryd.ntmps9
  go_wp2_with fail
  rw [← hw1.out]
  refine (complexOf_c 3 n u v s (.slice lo ln lc) w1 lo ln lc rfl).mono ?_
  rintro e wa ⟨rfl, hba⟩
  have hWa : Hid (Wr (Fx F w) wa g ys) := hW1.out.under (Fr.of_below (S := fun _ => False) hba fun j hj hj2 => by omega) fun _ _ hh => hh.elim
  have hFa : Hid (∀ j, wa.heap.size ≤ j → Fx F w j) := fun j hj => hFx.out j (Nat.le_trans hba.size hj)
  have hfa : Hid (Fr (Fx F w) w1 wa) := Fr.of_below hba fun j hj hj2 => by omega
  clear hba
  go_wp2_with fail
  refine (wcomplex_c (Fx F w) g ys u v wa hWa.out hFa.out hu hv (by omega)).mono ?_
  rintro e w2 ⟨rfl, h2, h3⟩
  have h2H : Hid (Wr (Fx F w) w2 g (ys ++ (Pk.lo 8 (bt u) ++ Pk.lo 8 (bt v)))) := h2
  have h3H : Hid (Fr (Fx F w) w1 w2) := hfa.out.then h3
  have hb2 := (hbx.out.under h3H.out (fun hh => by
    rcases hh with h5 | h5
    · exact absurd h5.2 (Nat.lt_irrefl _)
    · omega))
  have c0 := hb2.c0
  have c1 := hb2.c1
  have c2 := hb2.c2
  have c3 := hb2.c3
  have c4 := hb2.c4
  have c5 := hb2.c5
  clear hb2 h2 h3
  go_wp2_with fail
  refine (complexOf_c 3 n u v s (.slice lo ln lc) w2 lo ln lc rfl).mono ?_
  rintro e wb ⟨rfl, hbb⟩
  have hbbH : Hid (Below w2.heap.size w2 wb) := hbb
  clear hbb c0 c1 c2 c3 c4 c5
  go_wp2_with fail
  refine (pcomplex_c u v wb hu hv).mono ?_
  rintro e w3 ⟨v3, rfl, h4⟩
  have h4H : Hid (NewB w2 w3 v3 (Pk.lo 8 (bt u) ++ Pk.lo 8 (bt v))) := NewB.pre hbbH.out h4
  clear h4
  go_wp2
  go_ret2
  exact ⟨_, rfl, wrO_of hf1.out.1 hf1.out.2 h2H.out h3H.out h4H.out⟩
set_option maxRecDepth 100000 in
set_option maxHeartbeats 4000000 in
theorem write_4 (F : Nat → Prop) (g : Nat) (ys : List Nat) (n : Int) (u v : Nat) (s : ByteArray) (lo : Option Addr) (ln lc : Nat) (w : World) (h : Wr F w g ys) (hl : ys.length ≤ 140737400000000) :
    Calls Tryd.prog 9 #[.pointer (some ⟨g, 0, none⟩), vl 4 u v s (.slice lo ln lc) n] w fun e w' => ∃ v', e = .returned (.tuple #[v', .bool true]) ∧ WrO F w w' g ys (Pk.lo 4 (bt32 (u % 4294967296)) ++ Pk.lo 4 (bt32 (v % 4294967296))) v' := by
  unfold vl
  obtain ⟨w1, hw1⟩ : ∃ w1, Hid (w1 = w.alloc (.cells #[.int .i64 4, .int .u64 (u : Int), .int .u64 (v : Int), .string s, .slice lo ln lc, .int .i64 n] 30)) := ⟨_, rfl⟩
  have hbx : Hid (Bx w1 w.heap.size 4 u v s (.slice lo ln lc) n) := by rw [hw1.out]; exact box_bx w 4 u v s _ n
  have hW1 : Hid (Wr (Fx F w) w1 g ys) := by rw [hw1.out]; exact box_wr h _
  have hf1 : Hid (Fr F w w1 ∧ w1.heap.size = w.heap.size + 1) := by rw [hw1.out]; exact ⟨(Fr.refl F w).alloc _, by simp⟩
  have hFx : Hid (∀ j, w1.heap.size ≤ j → Fx F w j) := fun j hj => .inr (by have := hf1.out.2; omega)
  clear h
  go_enter Tryd.func9, Tryd.ntmps9
  go_wp2_with fail
  rw [← hw1.out]
  refine (narrowOf_c 4 n u v s (.slice lo ln lc) w1 lo ln lc rfl).mono ?_
  rintro e wa ⟨rfl, hba⟩
  have hWa : Hid (Wr (Fx F w) wa g ys) := hW1.out.under (Fr.of_below (S := fun _ => False) hba fun j hj hj2 => by omega) fun _ _ hh => hh.elim
  have hFa : Hid (∀ j, wa.heap.size ≤ j → Fx F w j) := fun j hj => hFx.out j (Nat.le_trans hba.size hj)
  have hfa : Hid (Fr (Fx F w) w1 wa) := Fr.of_below hba fun j hj hj2 => by omega
  clear hba
  go_wp2_with fail
  refine (wnarrow_c (Fx F w) g ys (u % 4294967296) (v % 4294967296) wa hWa.out hFa.out (Nat.mod_lt _ (by decide)) (Nat.mod_lt _ (by decide)) (by omega)).mono ?_
  rintro e w2 ⟨rfl, h2, h3⟩
  have h2H : Hid (Wr (Fx F w) w2 g (ys ++ (Pk.lo 4 (bt32 (u % 4294967296)) ++ Pk.lo 4 (bt32 (v % 4294967296))))) := h2
  have h3H : Hid (Fr (Fx F w) w1 w2) := hfa.out.then h3
  have hb2 := (hbx.out.under h3H.out (fun hh => by
    rcases hh with h5 | h5
    · exact absurd h5.2 (Nat.lt_irrefl _)
    · omega))
  have c0 := hb2.c0
  have c1 := hb2.c1
  have c2 := hb2.c2
  have c3 := hb2.c3
  have c4 := hb2.c4
  have c5 := hb2.c5
  clear hb2 h2 h3
  go_wp2_with fail
  refine (narrowOf_c 4 n u v s (.slice lo ln lc) w2 lo ln lc rfl).mono ?_
  rintro e wb ⟨rfl, hbb⟩
  have hbbH : Hid (Below w2.heap.size w2 wb) := hbb
  clear hbb c0 c1 c2 c3 c4 c5
  go_wp2_with fail
  refine (pnarrow_c (u % 4294967296) (v % 4294967296) wb (Nat.mod_lt _ (by decide)) (Nat.mod_lt _ (by decide))).mono ?_
  rintro e w3 ⟨v3, rfl, h4⟩
  have h4H : Hid (NewB w2 w3 v3 (Pk.lo 4 (bt32 (u % 4294967296)) ++ Pk.lo 4 (bt32 (v % 4294967296)))) := NewB.pre hbbH.out h4
  clear h4
  go_wp2
  go_ret2
  exact ⟨_, rfl, wrO_of hf1.out.1 hf1.out.2 h2H.out h3H.out h4H.out⟩
set_option maxRecDepth 100000 in
set_option maxHeartbeats 4000000 in
theorem write_d (F : Nat → Prop) (g : Nat) (ys : List Nat) (k n : Int) (u v : Nat) (s : ByteArray) (lo : Option Addr) (ln lc : Nat) (w : World) (h : Wr F w g ys) (hk : ∀ j : Int, 0 ≤ j → j ≤ 8 → k ≠ j) :
    Calls Tryd.prog 9 #[.pointer (some ⟨g, 0, none⟩), vl k u v s (.slice lo ln lc) n] w fun e w' => ∃ v', e = .returned (.tuple #[v', .bool true]) ∧ WrO F w w' g ys ([]) v' := by
  unfold vl
  obtain ⟨w1, hw1⟩ : ∃ w1, Hid (w1 = w.alloc (.cells #[.int .i64 k, .int .u64 (u : Int), .int .u64 (v : Int), .string s, .slice lo ln lc, .int .i64 n] 30)) := ⟨_, rfl⟩
  have hW1 : Hid (Wr (Fx F w) w1 g ys) := by rw [hw1.out]; exact box_wr h _
  have hf1 : Hid (Fr F w w1 ∧ w1.heap.size = w.heap.size + 1) := by rw [hw1.out]; exact ⟨(Fr.refl F w).alloc _, by simp⟩
  clear h
  have n0 : (k == 0) = false := beq_eq_false_iff_ne.2 (hk 0 (by decide) (by decide))
  have n1 : (k == 1) = false := beq_eq_false_iff_ne.2 (hk 1 (by decide) (by decide))
  have n2 : (k == 2) = false := beq_eq_false_iff_ne.2 (hk 2 (by decide) (by decide))
  have n3 : (k == 3) = false := beq_eq_false_iff_ne.2 (hk 3 (by decide) (by decide))
  have n4 : (k == 4) = false := beq_eq_false_iff_ne.2 (hk 4 (by decide) (by decide))
  have n5 : (k == 5) = false := beq_eq_false_iff_ne.2 (hk 5 (by decide) (by decide))
  have n6 : (k == 6) = false := beq_eq_false_iff_ne.2 (hk 6 (by decide) (by decide))
  have n7 : (k == 7) = false := beq_eq_false_iff_ne.2 (hk 7 (by decide) (by decide))
  have n8 : (k == 8) = false := beq_eq_false_iff_ne.2 (hk 8 (by decide) (by decide))
  clear hk
  go_enter Tryd.func9, Tryd.ntmps9
  go_wp2
  go_ret2
  refine ⟨_, rfl, ?_⟩
  rw [← hw1.out]
  exact wrO_nil hf1.out.1 hW1.out
end Go.Proofs.YtjckgcjcpmnhhaaDoor
